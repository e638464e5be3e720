import PyProof.Rows.All
import Wide.All
import OpenK.AllK
import Wide.FinOn
import Lean
import PyProof.EqAt
import PyProof.EqKinds
import PyProof.TupleCall
import PyProof.P3In
import PyProof.NeData
import KE.KMinKey
import PyProof.Rows.CallKwBuiltin
import PyProof.LayNew
import PyProof.EnumFor
import PyProof.EnumMake
import PyProof.EnumStmt
import KE.KRevIter
import KE.KRevSl
import PyProof.StationsW
import PyProof.RulesAs
import KE.KTryMore
import PyProof.Rows.TopTwo
import PyProof.NsDelKeeps
import PyProof.ExcArgsOwn
import KE.KIsAll
import PyProof.AutoListH
import PyProof.SetRoads
import PyProof.SetNew
import PyProof.ListRange
import PyProof.Rows.TupDisplay
import PyProof.Draws
import PyProof.ZipIter
import PyProof.TupleIter
import PyProof.AttrMissSeq
import KE.KDictOf
import PySem.Challenge.RW_waithands_k58_fewest_one_by_one
set_option Elab.async false
set_option linter.all false
set_option maxRecDepth 100000
section
open PySem PySem.Spec PyProof.Rows
abbrev aY:=@wpAny_bind
abbrev dJ:=@Heap.get?_push_of_some
abbrev bW:=@List.length_map
abbrev fD:=@List.getD_eq_getElem?_getD
abbrev gm:=@List.getElem?_eq_getElem
abbrev h_:=@lookup_relabel_local
abbrev b_:=@wpAny_pure
abbrev g_:=@List.getElem?_map
abbrev dM:=@Nat.le_refl
abbrev bD:=@if_neg
abbrev dF:=@Heap.get?_push_size
abbrev bT:=@List.mem_cons
abbrev c7:=@List.length_append
abbrev aL:=@if_pos
abbrev gC:=@List.getElem?_eq_some_iff
abbrev cI:=@Heap.lt_size
abbrev fP:=@List.mem_singleton
abbrev gq:=@List.size_toArray
abbrev i_:=@List.mem_append_right
abbrev iR:=@List.mem_cons_of_mem
abbrev jx:=@List.mem_of_getElem?
abbrev kI:=@Option.map_eq_some_iff
abbrev jw:=@List.mem_cons_self
abbrev jM:=@Bool.false_eq_true
abbrev fG:=@Nat.zero_le
abbrev iZ:=@List.map_append
abbrev iQ:=@Heap.size_push
abbrev gB:=@Nat.ne_of_lt
abbrev lF:=@Nat.lt_of_lt_of_le
abbrev tE:=@List.getElem?_append_right
abbrev gW:=@List.mem_map
abbrev jW:=@List.not_mem_nil
abbrev jV:=@List.length_take
abbrev jU:=@List.length_cons
abbrev mj:=@Bool.false_ne_true
abbrev ju:=@decide_eq_true
abbrev jL:=@decide_eq_false
abbrev nP:=@Array.length_toList
abbrev lE:=@List.mem_append
abbrev v8:=@List.getElem?_append_left
abbrev mY:=@List.take_length
abbrev Bd:=@List.take_append_of_le_length
abbrev jK:=@Nat.le_of_lt
abbrev iM:=@wpAny_mono
abbrev qY:=@wpAny_Call_Name_kw
abbrev vZ:=@Heap.get?_update_other
abbrev Bc:=@Array.getElem?_eq_some_iff
abbrev oY:=@List.append_nil
abbrev jT:=@wpAny_field
abbrev Bb:=@Option.isSome_iff_exists
abbrev nO:=@wpAny_holding
abbrev uT:=@of_decide_eq_true
abbrev uR:=@Int.toNat_natCast
abbrev oX:=@List.map_cons
abbrev Ba:=@List.mem_iff_getElem?
abbrev A_:=@Heap.get?_update_self
abbrev qX:=@wpAny_seqItems
abbrev qU:=@List.mem_range
abbrev uQ:=@List.lookup_cons
abbrev vY:=@wpAny_newObj_type
abbrev JC:=@Array.getElem?_eq_getElem
abbrev yD:=@of_decide_eq_false
abbrev Az:=@List.length_zipWith
abbrev qt:=@Nat.le_trans
abbrev jF:=@congrArg
abbrev vX:=@List.nodup_cons
abbrev yC:=@wpAny_call_entry
abbrev yz:=@List.length_drop
abbrev yw:=@List.all_eq_true
abbrev Ay:=@wpAny_pyIter_list
abbrev Ax:=@List.append_assoc
abbrev JB:=@List.length_replicate
abbrev Jz:=@List.getElem?_zipWith
abbrev Jy:=@Array.getElem?_toList
abbrev uP:=@Nat.lt_irrefl
abbrev tu:=@Nat.sub_self
abbrev Gk:=@Int.emod_lt_of_pos
abbrev R_:=@Array.getD_eq_getD_getElem?
abbrev Gj:=@wpAny_truthy_bool
abbrev sZ:=@Int.le_refl
abbrev Mu:=@List.getElem?_eq_none
abbrev Jx:=@wpAny_pyIter_tuple
abbrev Gh:=@List.getElem_mem
abbrev Gg:=@Bool.and_eq_true
abbrev yr:=@Bool.not_true
abbrev uO:=@wpAny_of_eq
abbrev Mt:=@List.mem_append_left
abbrev R9:=@wpAny_callSpecial?_slot
abbrev Gf:=@Int.emod_nonneg
abbrev Jw:=@Nat.le_add_right
abbrev Ge:=@List.take_succ
abbrev R8:=@List.getElem?_toArray
abbrev Aw:=@Nat.zero_add
abbrev R7:=@Nat.pow_le_pow_right
abbrev Gd:=@wpAny_standAt
abbrev R6:=@List.filterMap_cons
abbrev Wg:=@List.length_eq_zero_iff
abbrev Wf:=@List.getElem?_cons_succ
abbrev yI:=@List.drop_length
abbrev Dp:=@wpAny_setField_rec
abbrev JZ:=@List.take_of_length_le
abbrev yH:=@wpAny_passesOwn
abbrev yG:=@List.range_succ
abbrev vM:=@Nat.add_assoc
abbrev Dn:=@wpAny_setState_of
abbrev Dm:=@Nat.lt_trichotomy
abbrev Dl:=@Nat.lt_succ_of_lt
abbrev Dk:=@List.length_range
abbrev yF:=@wpAny_tryCatch
abbrev qH:=@wpAny_rule
abbrev Dj:=@List.ext_getElem
abbrev Ql:=@List.drop_eq_getElem_cons
abbrev Di:=@wpAny_specialOf
abbrev Dh:=@wpAny_execs_nil
abbrev Dg:=@Option.map_some
abbrev Df:=@List.forIn_cons
abbrev kO:=@Iff.rfl
abbrev De:=@Bool.eq_iff_iff
abbrev JX:=@List.getElem_range
abbrev JW:=@List.getElem?_drop
abbrev Dd:=@wpAny_setField
abbrev Dc:=@List.nodup_nil
abbrev JV:=@List.nodup_append
abbrev Qk:=@List.getElem?_set_self
abbrev Qj:=@List.take_append_drop
abbrev JT:=@wpAny_pyIter_zip
abbrev JS:=@wpAny_forIn_list
abbrev JR:=@Nat.lt_succ_self
abbrev C_:=@List.map_take
abbrev yE:=@wpAny_letGo
abbrev Qi:=@List.mem_of_mem_take
abbrev JQ:=@List.nil_append
abbrev JP:=@List.mem_filter
abbrev JN:=@List.length_nil
abbrev Qh:=@Nat.add_left_cancel
abbrev Qg:=@Heap.SameBut.update
abbrev CZ:=@wpAny_typeOf
abbrev CV:=@Nat.min_self
abbrev CQ:=@List.map_map
abbrev JM:=@List.drop_zero
abbrev Qf:=@Array.forIn_toList
abbrev Wl:=@List.pairwise_iff_getElem
abbrev Qe:=@wpAny_pyIter_enum
abbrev JL:=@wpAny_onRaise
abbrev Qd:=@Nat.mod_eq_of_lt
abbrev Qa:=@Nat.min_eq_right
abbrev Wk:=@List.getElem?_replicate
abbrev P_:=@List.cons_append
abbrev Wj:=@wpAny_pyIter_rangeiter
abbrev JK:=@Nat.sub_zero
abbrev JH:=@Nat.pow_succ
abbrev JG:=@Nat.ne_of_gt
abbrev JF:=@Nat.lt_trans
abbrev Wi:=@List.drop_of_length_le
abbrev JD:=@Int.sub_zero
end
set_option compiler.extract_closed false
open PySem.W (instObj methodObj Frag lookIn plainGet hasDictIn findIn specialIn isFn keepIn takesIn mroIn kitOne kia_one kitx_none kitx_bool kitx_int kitx_str kitx_float kitx_list kitx_tuple kitx_dict kitx_own callWith_K cellsFrom_some fnOf codeIn codeRec_of kitAny kia_tup excIn exmOne findObj subIn clsIn looks_findIn nsIn mg_of mg_none_of)
local macro_rules | `(tactic| walk_at "o")=>`(tactic| first | exact Or.inl rfl | exact Or.inr rfl)
local macro_rules | `(tactic| walk_at "h")=>`(tactic| first | exact .inl rfl | exact .inr rfl | assumption)
local macro_rules | `(tactic| walk_at "v")=>`(tactic| first | exact Or.inl rfl | exact Or.inr (Or.inl rfl) | exact Or.inr (Or.inr rfl))
local macro_rules | `(tactic| omega)=>`(tactic| first | lia | omega (splitDisjunctions:=true))
local macro_rules | `(⋯)=>`(by decide)
local macro_rules | `(∅)=>`(by omega)
set_option hygiene false in
local macro_rules | `(tactic| symm)=>`(tactic| (refine .mk ?_;intro ae s σ H))
set_option hygiene false in
local macro_rules | `((0:))=>`(fun cdv A outer s H vs Q E hr h=>?_)
namespace L2
open PySem PySem.Spec PyProof.Rows
abbrev Key:=Sum Int Str
def abn:Key->Value->Bool
 | .inl k,v=>Value.isInt k v
 | .inr x,v=>Value.isStrOf x v
def agT(w:World):Key->Int
 | .inl k=>hashInt k
 | .inr x=>hashStr w x
theorem e_:∀{k:Key}{v:Value},abn k v=true->(∃i t,k=Sum.inl i/\v=Value.int i t)\/(∃x t,k=Sum.inr x/\v=Value.str x t)
 | .inl i,v,h=>by
  obtain⟨t,e⟩:=Value.isInt_shape (k:=i) (v:=v) h;exact .inl ⟨i,t,rfl,e⟩
 | .inr x,v,h=>by
  obtain⟨t,e⟩:=Value.isStrOf_shape (x:=x) (v:=v) h;exact .inr ⟨x,t,rfl,e⟩
theorem acJ(a b:Int):decide ((Sum.inl a:Key)=Sum.inl b)=(a==b):=by
 by_cases e:a=b
 ·subst e; simp
 ·have h:¬(Sum.inl a:Key)=Sum.inl b:=fun q=>e (Sum.inl.inj q);rw[jL h];exact(beq_eq_false_iff_ne.mpr e).symm
theorem acG(a b:Str):decide ((Sum.inr a:Key)=Sum.inr b)=decide (a=b):=by
 by_cases e:a=b
 ·subst e; simp
 ·have h:¬(Sum.inr a:Key)=Sum.inr b:=fun q=>e (Sum.inr.inj q);rw[jL h,jL e]
theorem acI(a:Int)(b:Str):decide ((Sum.inl a:Key)=Sum.inr b)=false:=jL (fun q=>nomatch q)
theorem acH(a:Str)(b:Int):decide ((Sum.inr a:Key)=Sum.inl b)=false:=jL (fun q=>nomatch q)
def QJ(prog:Program)(w:World):PySem.KeyKind prog w Key where
 is:=abn
 hash:=agT w
 inj:=fun v a b ha hb=>by
  rcases e_ ha with⟨i,t,rfl,rfl⟩ | ⟨x,t,rfl,rfl⟩
  ·rcases e_ hb with⟨j,u,rfl,e⟩ | ⟨y,u,rfl,e⟩
   ·injection e with e1 _; rw[e1]
   ·exact nomatch e
  ·rcases e_ hb with⟨j,u,rfl,e⟩ | ⟨y,u,rfl,e⟩
   ·exact nomatch e
   ·injection e with e1 _; rw[e1]
 byValue:=fun k v h=>by
  rcases e_ h with⟨i,t,rfl,rfl⟩ | ⟨x,t,rfl,rfl⟩ <;> rfl
 pyHash:=fun hv h=>by
  rcases e_ hv with⟨i,t,rfl,rfl⟩ | ⟨x,t,rfl,rfl⟩
  ·exact wpAny_pyHash_int h
  ·exact wpAny_pyHash_str h
 eqBool:=fun hu hv h=>by
  rcases e_ hu with⟨i,t,rfl,rfl⟩ | ⟨x,t,rfl,rfl⟩
  ·rcases e_ hv with⟨j,u,rfl,rfl⟩ | ⟨y,u,rfl,rfl⟩
   ·rw[acJ] at h; exact wpAny_eqBool_int h
   ·rw[acI] at h; exact SeqAt.EqAt.int_str i t y u _ _ _ _ h
  ·rcases e_ hv with⟨j,u,rfl,rfl⟩ | ⟨y,u,rfl,rfl⟩
   ·rw[acH] at h; exact SeqAt.EqAt.str_int x t j u _ _ _ _ h
   ·rw[acG] at h; exact wpAny_eqBool_str h
 «strs»:=fun k x t v h=>by
  rcases e_ h with⟨i,u,rfl,e⟩ | ⟨y,u,rfl,e⟩
  ·exact nomatch e
  ·injection e with e1 _
   subst e1;cases v <;> rfl
inductive V where
 | non | bl (b:Bool) | int (i:Int) | str (x:Str) | U6 (b:Array UInt8) | flt (b:UInt64) | ref (a:Addr) | ty (n:String)
 deriving DecidableEq
def RelV:V->Value->Prop
 | .non,u=>u=Value.none
 | .bl b,u=>u=Value.bool b
 | .int i,u=>∃t,u=Value.int i t
 | .str x,u=>∃t,u=Value.str x t
 | .U6 b,u=>∃t,u=Value.bytes b t
 | .flt b,u=>∃t,u=Value.float b t
 | .ref a,u=>u=Value.ref a
 | .ty n,u=>u=Value.type n
abbrev Vals:List V->List Value->Prop:=Paired RelV
theorem Vals.length{xs:List V}{us:List Value}(r:Vals xs us):xs.length=us.length:=Paired.length r
theorem Vals.get:∀{xs:List V}{us:List Value}{i:Nat}{x:V},Vals xs us->xs[i]?=some x->∃u,us[i]?=some u/\RelV x u
 | _,_,_,_,.nil,e=>by simp at e
 | _,_,0,_,.cons r _,e=>by simp at e; subst e; exact⟨_,rfl,r⟩
 | _,_,i+1,x,.cons _ t,e=>by
  obtain⟨u,h1,h2⟩:=Vals.get (i:=i) (x:=x) t (by simpa using e)
  exact⟨u,by simpa using h1,h2⟩
theorem Vals.set{x:V}{u:Value}(r:RelV x u):∀{xs:List V}{us:List Value}(i:Nat),Vals xs us->Vals (xs.set i x) (us.set i u)
 | _,_,_,.nil=>.nil
 | _,_,0,.cons _ t=>.cons r t
 | _,_,i+1,.cons q t=>.cons q (Vals.set r i t)
theorem Vals.append:∀{xs ys:List V}{us ws:List Value},Vals xs us->Vals ys ws->Vals (xs++ys) (us++ws)
 | _,_,_,_,.nil,s=>s
 | _,_,_,_,.cons r t,s=>.cons r (Vals.append t s)
theorem Vals.take:∀{xs:List V}{us:List Value}(n:Nat),Vals xs us->Vals (xs.take n) (us.take n)
 | _,_,0,_=>.nil
 | _,_,_+1,.nil=>.nil
 | _,_,n+1,.cons r t=>.cons r (Vals.take n t)
theorem Vals.drop:∀{xs:List V}{us:List Value}(n:Nat),Vals xs us->Vals (xs.drop n) (us.drop n)
 | _,_,0,r=>r
 | _,_,_+1,.nil=>.nil
 | _,_,n+1,.cons _ t=>Vals.drop n t
def Uy:Option V->Option Value->Prop
 | some v,some u=>RelV v u
 | none,none=>True
 | _,_=>False
def KV{κ:Type}:List (κ×V)->List (κ×Value)->Prop:=Paired fun(p:κ×V)(q:κ×Value)=>p.1=q.1/\RelV p.2 q.2
def kV:Key->V
 | .inl i=>.int i
 | .inr x=>.str x
inductive HO where
 | lst (xs:List V)
 | tup (xs:List V)
 | dK (kvs:List (Key×V)) | dT (kvs:List (List Key×V))
 | set (S:Int->Bool) (n:Nat)
 | ins (C dx:Addr) (fs:List (Str×V))
 | own (x:Addr)
 | xd (fs:List (Str×V))
 | met (f x:Addr)
 | Zr (lo hi:Int)
 | Ig (o:Obj) (u:HO)
 | tbl (ps:Array Value)
 | ext (φ:Heap->Prop)
abbrev Hp:=Addr->Option HO
def upd(H:Hp)(a:Addr)(o:HO):Hp:=fun b=>if b=a then some o else H b
theorem aD{H:Hp}{a:Addr}{o:HO}:upd H a o a=some o:=by unfold upd; rw[aL rfl]
theorem aP{H:Hp}{a b:Addr}{o:HO}(h:b≠a):upd H a o b=H b:=by unfold upd; rw[bD h]
theorem bV{H:Hp}{a b:Addr}{o:HO}(h:H a=some o)(h':H b=none):a≠b:=by
 intro e; subst e; rw[h] at h'; cases h'
section
variable(P:Program)(w:World)
def cH(H:Hp)(h:Heap)(a:Addr):HO->Prop
 | .lst xs=>xs.length<=sizeLine/\∃(its:List Value)(n:Nat),Vals xs its/\h.get? a=some { cls:=.type "list",data:=.seq its.toArray n }
 | .tup xs=>xs.length<=sizeLine/\∃its:List Value,Vals xs its/\IsTup h a its.toArray
 | .dK kvs=>kvs.length<=sizeLine/\(a==sysModules)=false/\∃vs,KV kvs vs/\h.DictOf (QJ P w) a vs
 | .dT kvs=>kvs.length<=sizeLine/\(a==sysModules)=false/\∃xs:List (List Key×Addr×Value),
   Paired (fun(p:List Key×V)(q:List Key×Addr×Value)=>p.1=q.1/\H q.2.1=some (.tup (p.1.map kV))/\RelV p.2 q.2.2) kvs xs /\
   ∃o es ep,h.get? a=some o/\o.ExactDict/\o.data=.dict es ep/\es.toList=xs.map (entryOfKey (tupleKind (QJ P w)))/\(xs.map (·.1)).Nodup
 | .set S n=>h.SetOf (intKind P w) a S n
 | .ins C dx fs=>H dx=some (.own a)/\fs.length<=1000/\dx≠a/\h.get? a=some (instObj C dx) /\
   ∃mA,h.Ns1 dx mA/\(∀f,Uy (fs.lookup f) (mA f))/\PySem.Within mA (fs.map (·.1))
 | .own _=>∃o,h.get? a=some o
 | .xd fs=>∃mA,h.Ns1 a mA/\∀f,Uy (fs.lookup f) (mA f)
 | .Zr lo hi=>∃t u v,h.get? a=some { cls:=.type "range",data:=.fields #[.int lo t,.int hi u,.int 1 v] }
 | .Ig o u=>h.get? a=some o/\cH H h a u
 | .tbl ps=>h.get? a=some { cls:=.none,data:=.fields ps }
 | .met f x=>h.get? a=some (methodObj (.ref f) (.ref x))
 | .ext φ=>φ h/\(∃o,h.get? a=some o)/\∀h1 h2:Heap,φ h1->(∀o,h1.get? a=some o->h2.get? a=some o)->φ h2
def mL(H:Hp)(h:Heap):Prop:=∀a o,H a=some o->cH P w H h a o
end
section
variable{P:Program}{w:World}{H H':Hp}{h h':Heap}{a:Addr}{o:HO}
theorem cH.lt(x:cH P w H h a o):a<h.objs.size:=by
 cases o with
 | lst xs=>obtain⟨_,_,_,_,e⟩:=x; exact cI e
 | tup xs=>obtain⟨_,_,_,p⟩:=x; exact p.lt
 | dK kvs=>obtain⟨_,_,_,_,o,_,_,e,_⟩:=x; exact cI e
 | dT kvs=>obtain⟨_,_,_,_,o,_,_,e,_⟩:=x; exact cI e
 | set S n=>obtain⟨o,_,_,_,e,_⟩:=x; exact cI e
 | ins C dx fs=>obtain⟨_,_,_,e,_⟩:=x; exact cI e
 | own y=>obtain⟨_,e⟩:=x; exact cI e
 | xd fs=>obtain⟨_,⟨_,_,_,e,_⟩,_⟩:=x; exact cI e
 | Zr lo hi=>obtain⟨_,_,_,e⟩:=x; exact cI e
 | Ig ob u=>obtain⟨e,_⟩:=x; exact cI e
 | tbl ps=>exact cI (show h.get? a=some _ from x)
 | met f y=>exact cI (show h.get? a=some _ from x)
 | ext φ=>obtain⟨_,⟨_,e⟩,_⟩:=x; exact cI e
theorem Paired.aac{α β:Type}{F G:α->β->Prop}:∀{l₁:List α} {l₂:List β},Paired F l₁ l₂->(∀a b,F a b->G a b)->Paired G l₁ l₂
 | _,_,.nil,_=>.nil
 | _,_,.cons r t,f=>.cons (f _ _ r) (Paired.aac t f)
theorem cH.stay(x:cH P w H h a o)(k:∀b u,(b=a\/H b=some (.own a))->h.get? b=some u->h'.get? b=some u)
  (ho:∀b,H b=some (.own a)->H' b=some (.own a)) (ht:∀b xs,H b=some (.tup xs)->H' b=some (.tup xs)):cH P w H' h' a o:=by
 induction o with
 | lst xs=>obtain⟨z,its,n,r,e⟩:=x; exact⟨z,its,n,r,k _ _ (.inl rfl) e⟩
 | tup xs=>obtain⟨z,its,r,ob,e,c⟩:=x; exact⟨z,its,r,ob,k _ _ (.inl rfl) e,c⟩
 | dK kvs=>obtain⟨z,y,vs,r,ob,es,ep,e,c⟩:=x; exact⟨z,y,vs,r,ob,es,ep,k _ _ (.inl rfl) e,c⟩
 | dT kvs=>
  obtain⟨z,y,xs,r,ob,es,ep,e,c⟩:=x;exact⟨z,y,xs,Paired.aac r fun p q z=>⟨z.1,ht _ _ z.2.1,z.2.2⟩,ob,es,ep,k _ _ (.inl rfl) e,c⟩
 | set S n=>obtain⟨ob,es,ep,t,e,c⟩:=x; exact⟨ob,es,ep,t,k _ _ (.inl rfl) e,c⟩
 | ins C dx fs=>
  obtain⟨d,z,ne,e,mA,⟨od,es,ep,e2,c⟩,r⟩:=x;exact⟨ho _ d,z,ne,k _ _ (.inl rfl) e,mA,⟨od,es,ep,k _ _ (.inr d) e2,c⟩,r⟩
 | own y=>obtain⟨ob,e⟩:=x; exact⟨ob,k _ _ (.inl rfl) e⟩
 | xd fs=>obtain⟨mA,⟨od,es,ep,e,c⟩,r⟩:=x; exact⟨mA,⟨od,es,ep,k _ _ (.inl rfl) e,c⟩,r⟩
 | Zr lo hi=>obtain⟨t,u,v,e⟩:=x; exact⟨t,u,v,k _ _ (.inl rfl) e⟩
 | Ig ob u ih=>obtain⟨e,q⟩:=x; exact⟨k _ _ (.inl rfl) e,ih q⟩
 | tbl ps=>
  have e:h.get? a=some { cls:=.none,data:=.fields ps }:=x;show h'.get? a=some { cls:=.none,data:=.fields ps };exact k a _ (.inl rfl) e
 | met f y=>
  have e:h.get? a=some (methodObj (.ref f) (.ref y)):=x;show h'.get? a=some (methodObj (.ref f) (.ref y));exact k a _ (.inl rfl) e
 | ext φ=>obtain⟨p,⟨o,e⟩,st⟩:=x; exact⟨st _ _ p fun o q=>k _ _ (.inl rfl) q,⟨o,k _ _ (.inl rfl) e⟩,st⟩
theorem mL.lt(x:mL P w H h)(e:H a=some o):a<h.objs.size:=(x a o e).lt
theorem mL.fresh(x:mL P w H h)(e:h.objs.size<=a):H a=none:=by
 cases q:H a with
 | none=>rfl
 | some u=>exact absurd (lF (x.lt q) e) (uP _)
theorem mL.kept(x:mL P w H h)(k:∀b u,h.get? b=some u->h'.get? b=some u):mL P w H h':=fun a o e=>
 (x a o e).stay (fun b u _ q=>k b u q) (fun _ q=>q) fun _ _ q=>q
theorem mL.laid(x:mL P w H h)(k:∀b u,h.get? b=some u->h'.get? b=some u)(hp:h.objs.size<=a)(new:cH P w (upd H a o) h' a o):mL P w (upd H a o) h':=fun b u e=>by
 have hn:=x.fresh hp;by_cases hb:b=a
 ·subst hb; rw[aD] at e; cases e; exact new
 ·rw[aP hb] at e;exact(x b u e).stay (fun c v _ q=>k c v q) (fun c q=>by rw[aP (bV q hn)]; exact q) fun c xs q=>by rw[aP (bV q hn)]; exact q
end
def Rd(H:Hp)(a:Addr)(u:HO):Prop:=H a=some u\/∃o,H a=some (.Ig o u)
theorem Rd.ok{P:Program}{w:World}{H:Hp}{h:Heap}{a:Addr}{u:HO}(r:Rd H a u)(x:mL P w H h):cH P w H h a u:=by
 rcases r with r | ⟨o,r⟩
 ·exact x a u r
 ·obtain⟨_,q⟩:=x a _ r;exact q
def Mut:Option HO->Prop
 | some (.lst _)=>True
 | some (.dK _)=>True
 | some (.dT _)=>True
 | some (.set _ _)=>True
 | some (.ins _ _ _)=>True
 | some (.ext _)=>True
 | _=>False
section
variable{P:Program}{w:World}{H:Hp}{h h':Heap}{x e:Addr}{o':HO}
theorem mL.write(ok:mL P w H h)(mu:Mut (H x))(he:e=x\/H e=some (.own x))(k:∀b u,b≠e->h.get? b=some u->h'.get? b=some u)(heo:∃u,h'.get? e=some u)
  (new:cH P w (upd H x o') h' x o'):mL P w (upd H x o') h':=fun b u q=>by
 have aeP:∀c y,H c=some (.own y)->c≠x:=fun c y r z=>by subst z; rw[r] at mu; exact mu
 have agF:∀c xs,H c=some (.tup xs)->c≠x:=fun c xs r z=>by subst z; rw[r] at mu; exact mu
 by_cases hb:b=x
 ·subst hb; rw[aD] at q; cases q; exact new
 ·rw[aP hb] at q;by_cases hbe:b=e
  ·have q':H b=some (.own x):=by
    rcases he with z | z
    ·exact absurd (hbe.trans z) hb
    ·rw[hbe]; exact z
   rw[q] at q'; cases q';obtain⟨v,hv⟩:=heo;exact⟨v,by rw[hbe]; exact hv⟩
  ·refine(ok b u q).stay (fun c v hc r=>k c v ?_ r) (fun c r=>by rw[aP (aeP c b r)]; exact r) fun c xs r=>by rw[aP (agF c xs r)]; exact r
   rcases hc with rfl | hc
   ·exact hbe
   ·rintro rfl;rcases he with z | z
    ·exact aeP c b hc z
    ·rw[hc] at z; cases z; exact hb rfl
end
structure Un(fs ex:List Addr)(H H':Hp)(h h':Heap):Prop where
 keep:∀b o,h.get? b=some o->H b=none->b∉fs->b∉ex->h'.get? b=some o
 slot:∀b o,h.get? b=some o->H b=none->b∈fs->b∉ex->∃sl,h'.get? b=some { o with slots:=sl }
 free:∀b o,h.get? b=some o->H b=none->b∉ex->H' b=none
 there:∀b o,h.get? b=some o->b∉ex->∃o',h'.get? b=some o'
 tups:∀b xs,H b=some (.tup xs)->H' b=some (.tup xs)
 zM:∀b o u,H b=some (.Ig o u)->H' b=some (.Ig o u)
 Ao:∀b ps,H b=some (.tbl ps)->∃more,H' b=some (.tbl (ps++more))
section
variable{fs fs' ex ex':List Addr}{H H1 H2:Hp}{h h1 h2 h':Heap}{a x e:Addr}{o:HO}
theorem Un.any(u:Un fs ex H H1 h h1){b:Addr}{ob:Obj}(q:h.get? b=some ob)(n:H b=none)(hx:b∉ex):∃sl,h1.get? b=some { ob with slots:=sl }:=by
 by_cases hb:b∈fs
 ·exact u.slot b ob q n hb hx
 ·exact⟨ob.slots,u.keep b ob q n hb hx⟩
theorem Un.kept(k:∀b u,h.get? b=some u->h'.get? b=some u):Un fs ex H H h h':=
 ⟨fun b ob q _ _ _=>k b ob q,fun b ob q _ _ _=>⟨ob.slots,k b ob q⟩,fun _ _ _ n _=>n,fun b ob q _=>⟨ob,k b ob q⟩,fun _ _ q=>q,fun _ _ _ q=>q,fun _ ps q=>⟨#[],by rw[q]; simp⟩⟩
theorem Un.refl:Un fs ex H H h h:=Un.kept fun _ _ q=>q
theorem Un.laid(k:∀b u,h.get? b=some u->h'.get? b=some u)(hp:h.objs.size<=a)(hn:H a=none):Un fs ex H (upd H a o) h h' where
 keep:=fun b u q _ _ _=>k b u q
 slot:=fun b u q _ _ _=>⟨u.slots,k b u q⟩
 free:=fun b u q n _=>by rw[aP (gB (lF (cI q) hp))]; exact n
 there:=fun b u q _=>⟨u,k b u q⟩
 tups:=fun b xs q=>by rw[aP (bV q hn)]; exact q
 zM:=fun b u xs q=>by rw[aP (bV q hn)]; exact q
 Ao:=fun b ps q=>⟨#[],by rw[aP (bV q hn),q]; simp⟩
theorem Un.write(mu:Mut (H x))(he:e=x\/H e=some (.own x))(k:∀b u,b≠e->h.get? b=some u->h'.get? b=some u)(heo:∃u,h'.get? e=some u):Un fs ex H (upd H x o) h h':=by
 have hx:∀b,H b=none->b≠x:=fun b n z=>by subst z; rw[n] at mu; exact mu
 have hb:∀b,H b=none->b≠e:=fun b n z=>by
  subst z;rcases he with r | r
  ·exact hx b n r
  ·rw[n] at r; cases r
 have hm:∀b u,H b=some u->¬Mut (some u)->b≠x:=fun b u q nm z=>by subst z; rw[q] at mu; exact nm mu
 refine⟨fun b u q n _ _=>k b u (hb b n) q,fun b u q n _ _=>⟨u.slots,k b u (hb b n) q⟩,fun b u q n _=>by rw[aP (hx b n)]; exact n,fun b u q _=>?_,
  fun b xs q=>by rw[aP (hm b _ q fun z=>z)]; exact q,fun b u xs q=>by rw[aP (hm b _ q fun z=>z)]; exact q,fun b ps q=>⟨#[],by rw[aP (hm b _ q fun z=>z),q]; simp⟩⟩
 by_cases hbe:b=e
 ·subst hbe; exact heo
 ·exact⟨u,k b u hbe q⟩
end
def trk(h:Heap)(H:Hp):List Addr:=(List.range h.objs.size).filter fun a=>(H a).isSome
def Hd(h:Heap)(H:Hp):Heap:=PySem.W.hideAll h (trk h H)
theorem T5(h:Heap)(H:Hp):(Hd h H).objs.size=h.objs.size:=PySem.W.hideAll_size _ _
theorem XH{h:Heap}{H:Hp}{b:Addr}{o:Obj}(e:h.get? b=some o)(n:H b=none):(Hd h H).get? b=some o:=
 PySem.W.hideAll_get _ e fun hm=>by
  have q:(H b).isSome=true:=(JP.mp hm).2;rw[n] at q; simp at q
theorem Z4{h:Heap}{H:Hp}{b:Addr}{o:Obj}(e:(Hd h H).get? b=some o):h.get? b=some o/\H b=none:=by
 have e':h.get? b=some o:=PySem.W.of_hideAll (trk h H) e;refine⟨e',?_⟩;cases q:H b with
 | none=>rfl
 | some x=>
  have hm:b∈trk h H:=JP.mpr ⟨qU.mpr (cI e'),by simp[q]⟩
  have z:(Hd h H).get? b=none:=PySem.W.hideAll_none (trk h H) hm;rw[z] at e; cases e
def aaJ(g h:Heap)(L:Addr):List (Addr×Obj):=(List.range h.objs.size).filterMap fun a=>if a=L\/(g.get? a).isSome=true then none else(h.get? a).map fun o=>(a,o)
def rest(g h:Heap)(L d:Addr):List (Addr×Obj):=(aaJ g h L).filter fun p=>decide (p.1≠d)
structure Mod(K:Frag)(mg:Str->Option Value)(base:Heap):Prop where
 Xn:K.In base
 glob:base.Ns mainGlobals mg
 blt:∃mb,base.Ns builtinsNs mb/\∀x:Str,x ≠ "__name__" -> mb x=bootBuiltins x
 nolimit:base.NoLimit
structure Cx where
 prog:Program
 w:World
 K:Frag
 mg:Str->Option Value
 base:Heap
 A:Around
 N:List Str
 s₀:Shared
 H₀:Hp
 env:Env
 outer:List Env
 stack:List Env
 ex:List Addr
 fn:Str->Bool
 calm:Bool
 pn:List (Addr×Obj)
 xe:Value->Shared->Prop
def frs(l:List Env):List Addr:=l.filterMap (·.frame)
abbrev Cx.fs(X:Cx):List Addr:=frs X.outer
def Vis(sc:Scope)(x:Str):Prop:=sc.names.lookup x=some .local\/sc.names.lookup x=some .cell\/sc.names.lookup x=some .free
def Loc(sc:Scope)(x:Str):Prop:=sc.names.lookup x=some .local\/sc.names.lookup x=some .cell
def Look(env:Env)(h:Heap)(m:Str->Option Value)(x:Str)(u:Value):Prop:=
 (env.kindOf x=some .local/\m x=some u)\/((env.kindOf x=some .cell\/env.kindOf x=some .free)/\∃c,env.cells.lookup x=some c/\h.IsCell c (some u))
structure Cx.Ok(X:Cx):Prop where
 mod:Mod X.K X.mg X.base
 kind:X.env.scope.kind=.function
 glob:X.env.globals=mainGlobals
 blt:X.env.builtins=builtinsNs
 above:X.s₀.heap.objs.size<=X.env.locals
 inj:∀x y c,X.env.cells.lookup x=some c->X.env.cells.lookup y=some c->x=y
 has:∀x,(X.env.kindOf x=some .cell\/X.env.kindOf x=some .free)->∃c,X.env.cells.lookup x=some c
 cab:∀x c,X.fn x=true->X.env.cells.lookup x=some c->X.s₀.heap.objs.size<=c
 hd:X.calm=true->X.A.handled=none
 frames:X.A.frames=some X.stack
 stk:X.stack=X.outer\/(X.stack=X.env::X.outer/\X.env.frame=some X.env.locals)
 exf:∀b∈X.ex,b≠X.env.locals/\∀x c,X.env.cells.lookup x=some c->c≠b
 bs:∀b o,X.base.get? b=some o->X.s₀.heap.get? b=some o/\X.H₀ b=none
 U7:X.base.objs.size<=X.s₀.heap.objs.size
 Kl:∀b o,X.base.get? b=some o->b∉X.ex
 Og:∀b∈X.ex,b∉X.fs
 wy:X.s₀.heap.FunFrames X.base X.outer
 frf:∀b∈X.fs,X.H₀ b=none
structure Inv(X:Cx)(ae:List (Addr×Obj))(σ:List (Option V))(H:Hp)(s:Shared):Prop where
 ok:X.Ok
 os:s.os=X.s₀.os
 bare:AllBare s.gens
 base:Un X.fs X.ex X.H₀ H X.s₀.heap s.heap
 loc:∃m,s.heap.Ns X.env.locals m/\∀(i:Nat)(x:Str)(v:V),X.N[i]?=some x->σ[i]?=some (some v)->Vis X.env.scope x->∃u,RelV v u/\Look X.env s.heap m x u
 cell:∀x c,X.env.cells.lookup x=some c->∃v,s.heap.IsCell c v
 free:H X.env.locals=none
 kW:∀x c,X.env.cells.lookup x=some c->H c=none
 pin:∀p∈X.pn++ae,s.heap.get? p.1=some p.2/\H p.1=none/\p.1≠X.env.locals/\p.1∉X.fs/\∀v,p.2.data≠.cell v
 hok:mL X.prog X.w H s.heap
 len:σ.length=X.N.length
section
variable{X:Cx}{ae:List (Addr×Obj)}{σ:List (Option V)}{H H':Hp}{s:Shared}{h':Heap}
theorem Cx.Ok.agI(ok:X.Ok){b:Addr}{o:Obj}(e:X.base.get? b=some o):b∉X.fs:=fun hb=>by
 have:=(ok.wy.mem hb).1;rw[e] at this; cases this
theorem Inv.bs(I:Inv X ae σ H s):∀b o,X.base.get? b=some o->s.heap.get? b=some o/\H b=none:=fun b o e=>
 ⟨I.base.keep b o (I.ok.bs b o e).1 (I.ok.bs b o e).2 (I.ok.agI e) (I.ok.Kl b o e),I.base.free b o (I.ok.bs b o e).1 (I.ok.bs b o e).2 (I.ok.Kl b o e)⟩
theorem Inv.bk(I:Inv X ae σ H s):∀b o,X.base.get? b=some o->s.heap.get? b=some o:=fun b o e=>(I.bs b o e).1
theorem Inv.mod(I:Inv X ae σ H s):Mod X.K X.mg X.base:=I.ok.mod
theorem Inv.qg(I:Inv X ae σ H s):X.K.In s.heap:=I.ok.mod.Xn.keeps I.bk
theorem Inv.fr(I:Inv X ae σ H s):∃m,Fr X.base X.env.locals s.heap m:=
 let ⟨m,hn,_⟩:=I.loc
 ⟨m,hn,I.bk,qt I.ok.U7 I.ok.above⟩
theorem Inv.lt(I:Inv X ae σ H s):X.env.locals<s.heap.objs.size:=let ⟨_,hn,_⟩:=I.loc; hn.lt
theorem Inv.sz(I:Inv X ae σ H s):X.s₀.heap.objs.size<=s.heap.objs.size:=qt I.ok.above (jK I.lt)
theorem Inv.agH(I:Inv X ae σ H s){a:Addr}(h:s.heap.objs.size<=a):a∉X.fs:=fun hb=>by
 obtain⟨_,o,ho,_⟩:=I.ok.wy.mem hb;exact absurd (lF (cI ho) (qt I.sz h)) (uP _)
theorem Inv.cne(I:Inv X ae σ H s):∀x c,X.env.cells.lookup x=some c->c≠X.env.locals:=fun x c e z=>by
 obtain⟨v,o,ho,hd⟩:=I.cell x c e;obtain⟨m,⟨o',es,ep,ho',hd',_⟩,_⟩:=I.loc;rw[z,ho'] at ho; cases ho; rw[hd'] at hd; cases hd
theorem Inv.wy(I:Inv X ae σ H s):s.heap.FunFrames X.base X.outer:=by
 have all:∀(l:List Env),(∀b∈frs l,b∈X.fs)->X.s₀.heap.FunFrames X.base l->s.heap.FunFrames X.base l:=by
  intro l
  induction l with
  | nil=>intro _ _; trivial
  | cons env r ih=>
   intro hs hl;obtain⟨hk,⟨L,o,hf,hn,ho,hd⟩,hr⟩:=hl;have hL:L∈X.fs:=hs L (by unfold frs; rw[R6,hf]; exact jw)
   obtain⟨sl,e⟩:=I.base.slot L o ho (I.ok.frf L hL) hL fun z=>I.ok.Og L z hL;exact⟨hk,⟨L,_,hf,hn,e,hd⟩,ih (fun b hb=>hs b (by unfold frs; rw[R6,hf]; exact iR _ hb)) hr⟩
 exact all X.outer (fun _ hb=>hb) I.ok.wy
theorem Inv.stack(I:Inv X ae σ H s):s.heap.FunFrames X.base X.stack:=by
 rcases I.ok.stk with e | ⟨e,hf⟩
 ·rw[e]; exact I.wy
 ·rw[e];obtain⟨m,hn,_⟩:=I.loc;refine .cons (by rw[I.ok.kind]; decide) hf hn ?_ I.wy
  exact Heap.get?_none_of_le (qt I.ok.U7 I.ok.above)
theorem Inv.Mh(I:Inv X ae σ H s):∀b∈frs X.stack,b∈X.env.locals::X.fs:=fun b hb=>by
 rcases I.ok.stk with e | ⟨e,hf⟩
 ·rw[e] at hb; exact iR _ hb
 ·rw[e] at hb;unfold frs at hb;rw[R6,hf] at hb;exact hb
theorem Inv.wK(I:Inv X ae σ H s):∀b∈frs X.stack,H b=none:=fun b hb=>by
 rcases bT.mp (I.Mh b hb) with e | hb
 ·rw[e]; exact I.free
 ·obtain⟨_,o,ho,_⟩:=I.ok.wy.mem hb;exact I.base.free b o ho (I.ok.frf b hb) fun z=>I.ok.Og b z hb
theorem Inv.step{g':Array GenState}{t':Nat}{d':Drawn}{ch:List Addr}(I:Inv X ae σ H s)
  (hch:∀b∈ch,(b∈X.ex\/X.s₀.heap.objs.size<=b)/\b≠X.env.locals/\(∀x c,X.env.cells.lookup x=some c->c≠b)/\∀p∈X.pn++ae,p.1≠b)
  (keep:∀b o,b≠X.env.locals->b∉X.fs->b∉ch->s.heap.get? b=some o->H b=none->h'.get? b=some o)
  (slot:∀b o,b≠X.env.locals->b∈X.fs->b∉ch->s.heap.get? b=some o->H b=none->∃sl,h'.get? b=some { o with slots:=sl }) (free:∀b o,b∉ch->s.heap.get? b=some o->H b=none->H' b=none)
  (there:∀b o,b∉ch->s.heap.get? b=some o->∃o',h'.get? b=some o')
  (tups:∀b xs,H b=some (.tup xs)->H' b=some (.tup xs)) (zM:∀b o u,H b=some (.Ig o u)->H' b=some (.Ig o u)) (Ao:∀b ps,H b=some (.tbl ps)->∃more,H' b=some (.tbl (ps++more)))
  (ns:∀m,s.heap.Ns X.env.locals m->h'.Ns X.env.locals m) (hok:mL X.prog X.w H' h') (hg:AllBare g') :
  Inv X ae σ H' { s with heap:=h',gens:=g',drawn:=d',toks:=t' }:=by
 have neL:∀b o,X.s₀.heap.get? b=some o->b≠X.env.locals:=fun b o e=>gB (lF (cI e) I.ok.above)
 have neC:∀b o,X.s₀.heap.get? b=some o->b∉X.ex->b∉ch:=fun b o e hx hb=>by
  rcases(hch b hb).1 with z | z
  ·exact hx z
  ·exact absurd (lF (cI e) z) (uP _)
 have cellK:∀x c,X.env.cells.lookup x=some c->∀v,s.heap.IsCell c v->h'.IsCell c v:=fun x c e v ⟨o,ho,hd⟩=>by
  have nch:c∉ch:=fun z=>(hch c z).2.2.1 x c e rfl;by_cases hc:c∈X.fs
  ·obtain⟨sl,q⟩:=slot c o (I.cne x c e) hc nch ho (I.kW x c e);exact⟨_,q,hd⟩
  ·exact⟨o,keep c o (I.cne x c e) hc nch ho (I.kW x c e),hd⟩
 refine⟨I.ok,I.os,hg,⟨fun b o e n hb hx=>?_,fun b o e n hb hx=>?_,fun b o e n hx=>?_,fun b o e hx=>?_,fun b xs e=>tups b xs (I.base.tups b xs e),fun b o xs e=>zM b o xs (I.base.zM b o xs e),fun b ps e=>?_⟩,?_,fun x c e=>?_,?_,fun x c e=>?_,fun p hp=>?_,hok,I.len⟩
 ·exact keep b o (neL b o e) hb (neC b o e hx) (I.base.keep b o e n hb hx) (I.base.free b o e n hx)
 ·obtain⟨sl,e1⟩:=I.base.slot b o e n hb hx;obtain⟨sl',e2⟩:=slot b _ (neL b o e) hb (neC b o e hx) e1 (I.base.free b o e n hx);exact⟨sl',e2⟩
 ·obtain⟨o',e1⟩:=I.base.there b o e hx;exact free b o' (neC b o e hx) e1 (I.base.free b o e n hx)
 ·obtain⟨o',e1⟩:=I.base.there b o e hx;exact there b o' (neC b o e hx) e1
 ·obtain⟨m1,e1⟩:=I.base.Ao b ps e;obtain⟨m2,e2⟩:=Ao b _ e1;exact⟨m1++m2,by rw[e2,Array.append_assoc]⟩
 ·obtain⟨m,hn,hl⟩:=I.loc;refine⟨m,ns m hn,fun i x v e1 e2 e3=>?_⟩;obtain⟨u,r,l⟩:=hl i x v e1 e2 e3;refine⟨u,r,?_⟩;rcases l with l | ⟨k,c,e,z⟩
  ·exact .inl l
  ·exact .inr ⟨k,c,e,cellK x c e _ z⟩
 ·obtain⟨v,z⟩:=I.cell x c e;exact⟨v,cellK x c e v z⟩
 ·obtain⟨m,⟨o,_,_,ho,_⟩,_⟩:=I.loc;exact free _ o (fun z=>(hch _ z).2.1 rfl) ho I.free
 ·obtain⟨v,o,ho,hd⟩:=I.cell x c e;exact free c o (fun z=>(hch c z).2.2.1 x c e rfl) ho (I.kW x c e)
 ·obtain⟨e,n,ne,nf,d⟩:=I.pin p hp;have nch:p.1∉ch:=fun z=>(hch p.1 z).2.2.2 p hp rfl;exact⟨keep p.1 p.2 ne nf nch e n,free p.1 p.2 nch e n,ne,nf,d⟩
theorem Inv.un{t':Nat}(I:Inv X ae σ H s)(u:Un X.fs [] H H' s.heap h')(hok:mL X.prog X.w H' h'):Inv X ae σ H' { s with heap:=h',toks:=t' }:=by
 obtain⟨m,⟨o,es,ep,ho,r⟩,_⟩:=id I.loc;obtain⟨sl,hL⟩:=u.any ho I.free (by simp)
 exact I.step (g':=s.gens) (d':=s.drawn) (ch:=[]) (fun _ z=>nomatch z) (fun b o _ hb _ e n=>u.keep b o e n hb (by simp)) (fun b o _ hb _ e n=>u.slot b o e n hb (by simp)) (fun b o _ e n=>u.free b o e n (by simp)) (fun b o _ e=>u.there b o e (by simp)) u.tups u.zM u.Ao (fun m' hm=>by
  obtain⟨o',es',ep',ho',r'⟩:=hm;rw[ho] at ho'; cases ho'
  exact⟨_,es',ep',hL,r'⟩) hok I.bare
theorem Inv.call{g':Array GenState}{t':Nat}{d':Drawn}{ch:List Addr}(I:Inv X ae σ H s)(u:Un (frs X.stack) ch H H' s.heap h')(hok:mL X.prog X.w H' h')(hg:AllBare g')
  (hch:∀b∈ch,(b∈X.ex\/X.s₀.heap.objs.size<=b)/\b≠X.env.locals/\(∀x c,X.env.cells.lookup x=some c->c≠b)/\∀p∈X.pn++ae,p.1≠b) :
  Inv X ae σ H' { s with heap:=h',gens:=g',drawn:=d',toks:=t' }:=by
 obtain⟨m,⟨o,es,ep,ho,r⟩,_⟩:=id I.loc;obtain⟨sl,hL⟩:=u.any ho I.free fun z=>(hch _ z).2.1 rfl
 exact I.step (ch:=ch) hch (fun b o hL hb hc e n=>u.keep b o e n (fun z=>(bT.mp (I.Mh b z)).elim hL hb) hc) (fun b o _ _ hc e n=>u.any e n hc) (fun b o hc e n=>u.free b o e n hc) (fun b o hc e=>u.there b o e hc) u.tups u.zM u.Ao (fun m' hm=>by
  obtain⟨o',es',ep',ho',r'⟩:=hm;rw[ho] at ho'; cases ho'
  exact⟨_,es',ep',hL,r'⟩) hok hg
theorem Inv.turned{t':Nat}{it:Addr}(I:Inv X ae σ H s)(k:∀b o,b≠it->s.heap.get? b=some o->h'.get? b=some o)(hn:H it=none)(hL:it≠X.env.locals)
  (h1:it∈X.ex\/X.s₀.heap.objs.size<=it) (h2:∀x c,X.env.cells.lookup x=some c->c≠it) (h3:∀p∈X.pn++ae,p.1≠it):Inv X ae σ H { s with heap:=h',toks:=t' }:=by
 have nit:∀b u,H b=some u->b≠it:=fun b u e z=>by rw[z,hn] at e; cases e
 refine I.step (g':=s.gens) (d':=s.drawn) (ch:=[it]) (fun b hb=>?_) (fun b o _ _ hc e _=>k b o (fun z=>hc (by simp[z])) e) (fun b o _ _ hc e _=>⟨o.slots,k b o (fun z=>hc (by simp[z])) e⟩) (fun _ _ _ _ n=>n)
  (fun b o hc e=>⟨o,k b o (fun z=>hc (by simp[z])) e⟩) (fun _ _ e=>e) (fun _ _ _ e=>e) (fun b ps e=>⟨#[],by rw[e]; simp⟩) (fun m hm=>?_) (fun b u e=>?_) I.bare
 ·have e:b=it:=by simpa using hb
  subst e;exact⟨h1,hL,h2,h3⟩
 ·obtain⟨o,es,ep,ho,r⟩:=hm;exact⟨o,es,ep,k _ o (Ne.symm hL) ho,r⟩
 ·refine(I.hok b u e).stay (fun c v hc q=>k c v ?_ q) (fun _ q=>q) fun _ _ q=>q;rcases hc with z | z
  ·rw[z]; exact nit b u e
  ·exact nit c _ z
theorem Inv.tok(I:Inv X ae σ H s)(t:Nat):Inv X ae σ H { s with toks:=t }:=I.un (h':=s.heap) (t':=t) Un.refl I.hok
theorem Inv.kept{t':Nat}(I:Inv X ae σ H s)(k:∀b u,s.heap.get? b=some u->h'.get? b=some u):Inv X ae σ H { s with heap:=h',toks:=t' }:=I.un (Un.kept k) (I.hok.kept k)
theorem Inv.laid{a:Addr}{o:HO}{t':Nat}(I:Inv X ae σ H s)(k:∀b u,s.heap.get? b=some u->h'.get? b=some u)(hp:s.heap.objs.size<=a)(new:cH X.prog X.w (upd H a o) h' a o) :
  Inv X ae σ (upd H a o) { s with heap:=h',toks:=t' }:=I.un (Un.laid k hp (I.hok.fresh hp)) (I.hok.laid k hp new)
theorem Inv.write{x e:Addr}{o:HO}{t':Nat}(I:Inv X ae σ H s)(mu:Mut (H x))(he:e=x\/H e=some (.own x))(k:∀b u,b≠e->s.heap.get? b=some u->h'.get? b=some u)(heo:∃u,h'.get? e=some u)
  (new:cH X.prog X.w (upd H x o) h' x o):Inv X ae σ (upd H x o) { s with heap:=h',toks:=t' }:=I.un (Un.write mu he k heo) (I.hok.write mu he k heo new)
theorem Inv.weak{σ':List (Option V)}(I:Inv X ae σ H s)(hl:σ'.length=σ.length)(w:∀(i:Nat) v,σ'[i]?=some (some v)->σ[i]?=some (some v)):Inv X ae σ' H s:=
 ⟨I.ok,I.os,I.bare,I.base,let ⟨m,hn,hl'⟩:=I.loc; ⟨m,hn,fun i x v e1 e2 e3=>hl' i x v e1 (w i v e2) e3⟩,I.cell,I.free,I.kW,I.pin,I.hok,hl.trans I.len⟩
theorem Inv.Qs{abe:List (Addr×Obj)}(I:Inv X ae σ H s)(h:∀p∈abe,s.heap.get? p.1=some p.2/\H p.1=none/\p.1≠X.env.locals/\p.1∉X.fs/\∀v,p.2.data≠.cell v):Inv X abe σ H s:=
 ⟨I.ok,I.os,I.bare,I.base,I.loc,I.cell,I.free,I.kW,fun p hp=>(lE.mp hp).elim (fun z=>I.pin p (Mt _ z)) (h p),I.hok,I.len⟩
theorem yX{N:List Str}(hN:N.Nodup){i j:Nat}{x:Str}(a:N[i]?=some x)(b:N[j]?=some x):i=j:=by
 obtain⟨h1,e1⟩:=gC.mp a;obtain⟨h2,e2⟩:=gC.mp b;exact(List.getElem_inj hN).mp (e1.trans e2.symm)
theorem RP{M:Model}{A:Around}{E:Value->Shared->Prop}{i:Nat}{x:Str}{v:V}{u:Value}{Q:Unit->Shared->Prop}(I:Inv X ae σ H s)(hN:X.N.Nodup)(hi:X.N[i]?=some x)(hx:Loc X.env.scope x)(r:RelV v u)
  (h:∀s',Inv X ae (σ.set i (some v)) H s'->(∃a,Heap.SameBut a s.heap s'.heap/\(a=X.env.locals\/X.env.cells.lookup x=some a))->Q () s') (hf:X.fn x=true\/X.env.scope.names.lookup x=some .local:=by walk_at "h"):wpAny M A (storeName X.env x u) Q E s:=by
 obtain⟨m,hn,hl⟩:=id I.loc;have hcls:(X.env.scope.kind==.class || (X.env.scope.kind==.module&&X.env.locals != X.env.globals))=false:=by rw[I.ok.kind]; rfl
 have hiσ:i<σ.length:=by rw[I.len]; exact(gC.mp hi).1
 have cne:=I.cne
 have tracked:∀{a:Addr}{h':Heap},(∃o,s.heap.get? a=some o/\H a=none)->Heap.SameBut a s.heap h'->mL X.prog X.w H h':=fun {a h'} ha hs b ob e=>by
  obtain⟨_,_,hfree⟩:=ha;refine(I.hok b ob e).stay (fun c w' hc q=>(hs.2 c ?_).trans q) (fun _ q=>q) fun _ _ q=>q;rintro rfl;rcases hc with rfl | hc
  ·rw[hfree] at e; cases e
  ·rw[hfree] at hc; cases hc
 rcases hx with hk | hk
 ·refine wpAny_storeName_local hk hn (fun h' hn' hs=>?_) hcls;obtain⟨oL,_,_,hoL,_⟩:=id hn;refine h _ ⟨I.ok,I.os,I.bare,⟨fun b o e n hb hx=>?_,fun b o e n hb hx=>?_,I.base.free,fun b o e hx=>?_,I.base.tups,I.base.zM,I.base.Ao⟩,⟨_,hn',fun j y v' e1 e2 e3=>?_⟩,fun y c e=>?_,I.free,I.kW,fun p hp=>?_,tracked ⟨oL,hoL,I.free⟩ hs,by simpa using I.len⟩ ⟨_,hs,.inl rfl⟩
  ·exact(hs.2 b (gB (lF (cI e) I.ok.above))).trans (I.base.keep b o e n hb hx)
  ·obtain⟨sl,e1⟩:=I.base.slot b o e n hb hx;exact⟨sl,(hs.2 b (gB (lF (cI e) I.ok.above))).trans e1⟩
  ·obtain⟨o',e1⟩:=I.base.there b o e hx;exact⟨o',(hs.2 b (gB (lF (cI e) I.ok.above))).trans e1⟩
  ·by_cases hj:j=i
   ·subst hj;rw[hi] at e1; cases e1;rw[Qk hiσ] at e2;cases e2;exact⟨u,r,.inl ⟨hk,by simp⟩⟩
   ·rw[List.getElem?_set_ne (Ne.symm hj)] at e2;obtain⟨u',r',q⟩:=hl j y v' e1 e2 e3;refine⟨u',r',?_⟩;rcases q with⟨k,e⟩ | ⟨k,c,e,z⟩
    ·refine .inl ⟨k,?_⟩;have:y≠x:=fun e=>hj (yX hN e1 (e▸hi));simp[this,e]
    ·exact .inr ⟨k,c,e,z.sameBut hs (cne y c e)⟩
  ·obtain⟨w',z⟩:=I.cell y c e;exact⟨w',z.sameBut hs (cne y c e)⟩
  ·obtain⟨e,n,ne,nf,d⟩:=I.pin p hp;exact⟨(hs.2 p.1 ne).trans e,n,ne,nf,d⟩
 ·have hfn:X.fn x=true:=by
   rcases hf with z | z
   ·exact z
   ·rw[z] at hk; cases hk
  obtain⟨c,hc⟩:=I.ok.has x (.inl hk);obtain⟨w',z⟩:=I.cell x c hc;refine wpAny_storeName_cell I.ok.kind hk hc z (fun h' hc' hs=>?_);obtain⟨oc,hoc,ag1⟩:=id z;refine h { s with heap:=h' } ⟨I.ok,I.os,I.bare,⟨fun b o e n hb hx=>?_,fun b o e n hb hx=>?_,I.base.free,fun b o e hx=>?_,I.base.tups,I.base.zM,I.base.Ao⟩,⟨m,hn.sameBut hs (Ne.symm (cne x c hc)),fun j y v' e1 e2 e3=>?_⟩,fun y c' e=>?_,I.free,I.kW,fun p hp=>?_,tracked ⟨oc,hoc,I.kW x c hc⟩ hs,by simpa using I.len⟩ ⟨c,hs,.inr hc⟩
  ·exact(hs.2 b (gB (lF (cI e) (I.ok.cab x c hfn hc)))).trans (I.base.keep b o e n hb hx)
  ·obtain⟨sl,e1⟩:=I.base.slot b o e n hb hx;exact⟨sl,(hs.2 b (gB (lF (cI e) (I.ok.cab x c hfn hc)))).trans e1⟩
  ·obtain⟨o',e1⟩:=I.base.there b o e hx;exact⟨o',(hs.2 b (gB (lF (cI e) (I.ok.cab x c hfn hc)))).trans e1⟩
  ·by_cases hj:j=i
   ·subst hj;rw[hi] at e1; cases e1;rw[Qk hiσ] at e2;cases e2;exact⟨u,r,.inr ⟨.inl hk,c,hc,hc'⟩⟩
   ·rw[List.getElem?_set_ne (Ne.symm hj)] at e2;obtain⟨u',r',q⟩:=hl j y v' e1 e2 e3;refine⟨u',r',?_⟩;rcases q with q | ⟨k,c',e,z'⟩
    ·exact .inl q
    ·refine .inr ⟨k,c',e,z'.sameBut hs ?_⟩;rintro rfl;exact hj (yX hN e1 (I.ok.inj _ _ _ e hc▸hi))
  ·by_cases hcc:c'=c
   ·subst hcc; exact⟨_,hc'⟩
   ·obtain⟨w2,z2⟩:=I.cell y c' e;exact⟨w2,z2.sameBut hs hcc⟩
  ·obtain⟨e,n,ne,nf,d⟩:=I.pin p hp;refine⟨(hs.2 p.1 ?_).trans e,n,ne,nf,d⟩;intro q;rw[q,hoc] at e;have q':oc=p.2:=Option.some.inj e;exact d w' (by rw[<- q']; exact ag1)
theorem jt{M:Model}{A:Around}{E:Value->Shared->Prop}{i:Nat}{x:Str}{v:V}{u:Value}{Q:Unit->Shared->Prop}(I:Inv X ae σ H s)(hN:X.N.Nodup)(hi:X.N[i]?=some x)(hx:Loc X.env.scope x)(r:RelV v u)
  (h:∀s',Inv X ae (σ.set i (some v)) H s'->Q () s') (hf:X.fn x=true\/X.env.scope.names.lookup x=some .local:=by walk_at "h"):wpAny M A (storeName X.env x u) Q E s:=
 RP I hN hi hx r (fun s' I' _=>h s' I') hf
theorem Inv.call'{s':Shared}{ch:List Addr}(I:Inv X ae σ H s)(ho:s'.os=s.os)(u:Un (frs X.stack) ch H H' s.heap s'.heap)(hok:mL X.prog X.w H' s'.heap)(hg:AllBare s'.gens)
  (hch:∀b∈ch,(b∈X.ex\/X.s₀.heap.objs.size<=b)/\b≠X.env.locals/\(∀x c,X.env.cells.lookup x=some c->c≠b)/\∀p∈X.pn++ae,p.1≠b):Inv X ae σ H' s':=by
 obtain⟨h',g',d',t',o'⟩:=s';have e:o'=s.os:=ho;subst e;exact I.call (g':=g') (t':=t') (d':=d') u hok hg hch
end
abbrev XK:=Value->Option Addr->Hp->Prop
abbrev St:=List (Option V)
abbrev VK:=V->Hp->Prop
abbrev TE:=St->Hp->VK->Prop
abbrev TT:=St->Hp->(Bool->Hp->Prop)->Prop
abbrev TA:=St->Hp->(List V->Hp->Prop)->Prop
structure Ends where
 nx:St->Hp->Prop
 rt:VK
 bk:St->Hp->Prop:=fun _ _=>False
 ct:St->Hp->Prop:=fun _ _=>False
abbrev TS:=Ends->St->Hp->Prop
def EP(X:Cx)(ae:List (Addr×Obj))(σ:St)(Q:VK)(u:Value)(s':Shared):Prop:=∃v H',Inv X ae σ H' s'/\RelV v u/\Q v H'
def TP(X:Cx)(ae:List (Addr×Obj))(σ:St)(Q:Bool->Hp->Prop)(b:Bool)(s':Shared):Prop:=∃H',Inv X ae σ H' s'/\Q b H'
def AP(X:Cx)(ae:List (Addr×Obj))(σ:St)(Q:List V->Hp->Prop)(us:List Value)(s':Shared):Prop:=∃vs H',Inv X ae σ H' s'/\Vals vs us/\Q vs H'
def SP(X:Cx)(ae:List (Addr×Obj))(D:Ends)(f:Flow)(s':Shared):Prop:=
 match f with
 | .next=>∃σ' H',Inv X ae σ' H' s'/\D.nx σ' H'
 | .brk=>∃σ' H',Inv X ae σ' H' s'/\D.bk σ' H'
 | .cont=>∃σ' H',Inv X ae σ' H' s'/\D.ct σ' H'
 | .ret u=>∃v σ' H',Inv X ae σ' H' s'/\RelV v u/\D.rt v H'
structure PE(X:Cx)(e:Expr)(t:TE):Prop where
 mk ::
 go :
 ∀(ae:List (Addr×Obj))(s:Shared)(σ:St)(H:Hp)(Q:VK),Inv X ae σ H s->t σ H Q->wpAny (model X.prog X.w) X.A (eval e X.env) (EP X ae σ Q) X.xe s
instance {X:Cx} {e:Expr} {t:TE}:CoeFun (PE X e t) (fun _=>
 ∀(ae:List (Addr×Obj))(s:Shared)(σ:St)(H:Hp)(Q:VK),Inv X ae σ H s->t σ H Q->wpAny (model X.prog X.w) X.A (eval e X.env) (EP X ae σ Q) X.xe s):=⟨PE.go⟩
structure PT(X:Cx)(e:Expr)(t:TT):Prop where
 mk ::
 go :
 ∀(ae:List (Addr×Obj))(s:Shared)(σ:St)(H:Hp)(Q:Bool->Hp->Prop),Inv X ae σ H s->t σ H Q->wpAny (model X.prog X.w) X.A (isTrue e X.env (eval e X.env)) (TP X ae σ Q) X.xe s
instance {X:Cx} {e:Expr} {t:TT}:CoeFun (PT X e t) (fun _=>
 ∀(ae:List (Addr×Obj))(s:Shared)(σ:St)(H:Hp)(Q:Bool->Hp->Prop),Inv X ae σ H s->t σ H Q->wpAny (model X.prog X.w) X.A (isTrue e X.env (eval e X.env)) (TP X ae σ Q) X.xe s):=⟨PT.go⟩
structure PW(X:Cx)(e:Expr)(t:TT):Prop where
 mk ::
 go :
 ∀(whole:Sem Value)(ae:List (Addr×Obj))(s:Shared)(σ:St)(H:Hp)(Q:Bool->Hp->Prop),Inv X ae σ H s->t σ H Q->wpAny (model X.prog X.w) X.A (isTrue e X.env whole) (TP X ae σ Q) X.xe s
instance {X:Cx} {e:Expr} {t:TT}:CoeFun (PW X e t) (fun _=>
 ∀(whole:Sem Value)(ae:List (Addr×Obj))(s:Shared)(σ:St)(H:Hp)(Q:Bool->Hp->Prop),Inv X ae σ H s->t σ H Q->wpAny (model X.prog X.w) X.A (isTrue e X.env whole) (TP X ae σ Q) X.xe s):=⟨PW.go⟩
theorem PW.pt{X:Cx}{e:Expr}{t:TT}(h:PW X e t):PT X e t:=.mk <| h _
structure PA(X:Cx)(es:List Expr)(t:TA):Prop where
 mk ::
 go :
 ∀(pos:Pos)(ae:List (Addr×Obj))(s:Shared)(σ:St)(H:Hp)(Q:List V->Hp->Prop),Inv X ae σ H s->t σ H Q->wpAny (model X.prog X.w) X.A (spliced (backTo pos (starEach es X.env))) (AP X ae σ Q) X.xe s
instance {X:Cx} {es:List Expr} {t:TA}:CoeFun (PA X es t) (fun _=>
 ∀(pos:Pos)(ae:List (Addr×Obj))(s:Shared)(σ:St)(H:Hp)(Q:List V->Hp->Prop),Inv X ae σ H s->t σ H Q->wpAny (model X.prog X.w) X.A (spliced (backTo pos (starEach es X.env))) (AP X ae σ Q) X.xe s):=⟨PA.go⟩
structure PS(X:Cx)(st:Stmt)(t:TS):Prop where
 mk ::
 go :
 ∀(ae:List (Addr×Obj))(s:Shared)(σ:St)(H:Hp)(D:Ends),Inv X ae σ H s->t D σ H->wpAny (model X.prog X.w) X.A (exec st X.env) (SP X ae D) X.xe s
instance {X:Cx} {st:Stmt} {t:TS}:CoeFun (PS X st t) (fun _=>
 ∀(ae:List (Addr×Obj))(s:Shared)(σ:St)(H:Hp)(D:Ends),Inv X ae σ H s->t D σ H->wpAny (model X.prog X.w) X.A (exec st X.env) (SP X ae D) X.xe s):=⟨PS.go⟩
structure BK(X:Cx)(st:List Stmt)(t:TS):Prop where
 mk ::
 go :
 ∀(ae:List (Addr×Obj))(s:Shared)(σ:St)(H:Hp)(D:Ends),Inv X ae σ H s->t D σ H->wpAny (model X.prog X.w) X.A (execs st X.env) (SP X ae D) X.xe s
instance {X:Cx} {st:List Stmt} {t:TS}:CoeFun (BK X st t) (fun _=>
 ∀(ae:List (Addr×Obj))(s:Shared)(σ:St)(H:Hp)(D:Ends),Inv X ae σ H s->t D σ H->wpAny (model X.prog X.w) X.A (execs st X.env) (SP X ae D) X.xe s):=⟨BK.go⟩
theorem dI{α:Type}{t:Sem α}{Q Q':α->Shared->Prop}{M:Model}{A:Around}{E:Value->Shared->Prop}{s:Shared}(h:wpAny M A t Q E s)(hQ:∀a s,Q a s->Q' a s):wpAny M A t Q' E s:=iM h hQ fun _ _ x=>x
section
variable{X:Cx}
def xx(i:Nat):TE:=fun σ H Q=>match σ[i]? with
 | some (some v)=>Q v H
 | _=>False
theorem xx.ex{i:Nat}{σ:St}{H:Hp}{Q:VK}(h:xx i σ H Q):∃v,σ[i]?=some (some v)/\Q v H:=by
 unfold xx at h;split at h
 ·rename_i v e;exact⟨v,e,h⟩
 ·exact h.elim
def tC(v:V):TE:=fun _ H Q=>Q v H
theorem ack{i:Nat}{x:Str}{pos:Pos}(hN:X.N[i]?=some x)(hv:Vis X.env.scope x)(hd:(x==("__debug__" : Str))=false:=by decide)(hcd:(x==("__classdict__" : Str))=false:=by decide):PE X (.Name x pos) (xx i):=by
 symm;intro Q I h;obtain⟨v,e,h⟩:=xx.ex h;obtain⟨m,hn,hl⟩:=I.loc;obtain⟨u,r,l⟩:=hl i x v hN e hv;have fin:EP X ae σ Q u s:=⟨v,H,I,r,h⟩;rcases l with⟨hk,hm⟩ | ⟨hk,c,hc,hcell⟩
 ·exact wpAny_Name (wpAny_loadName_local I.ok.kind hk hn hm fin) hd
 ·rcases hk with hk | hk
  ·exact wpAny_Name (wpAny_loadName_cell I.ok.kind hk hc hcell fin) hd
  ·exact wpAny_Name (wpAny_loadName_free I.ok.kind hk hc hcell fin hcd) hd
theorem ao{i j pos}:PE X (.Constant (.int i) j pos) (tC (.int i)):=.mk <| fun _ _ _ H _ I h=>wpAny_Constant_int ⟨.int i,H,I.tok _,⟨_,rfl⟩,h⟩
theorem jX{b j pos}:PE X (.Constant (.bool b) j pos) (tC (.bl b)):=.mk <| fun _ _ _ H _ I h=>Constant_bool ⟨.bl b,H,I,rfl,h⟩
theorem d9{j pos}:PE X (.Constant .none j pos) (tC .non):=.mk <| fun _ _ _ H _ I h=>Constant_none ⟨.non,H,I,rfl,h⟩
theorem cD{x j pos}:PE X (.Constant (.str x) j pos) (tC (.str x)):=.mk <| fun _ _ _ H _ I h=>Calls.Constant_str ⟨.str x,H,I.tok _,⟨_,rfl⟩,h⟩
def Gl(X:Cx)(x:Str):Prop:=X.env.kindOf x=some .globalImplicit
theorem tX{E:Value->Shared->Prop}{ae:List (Addr×Obj)}{s:Shared}{σ:St}{H:Hp}{x:Str}{u:Value}{pos:Pos}{Q:Value->Shared->Prop}(I:Inv X ae σ H s)(hg:Gl X x)(hm:X.mg x=some u)(h:Q u s)
  (hd:(x==("__debug__" : Str))=false:=by decide):wpAny (model X.prog X.w) X.A (eval (.Name x pos) X.env) Q E s:=
 Calls.Name_function_global I.ok.kind hg (Calls.loadGlobal_global (by rw[I.ok.glob]; exact I.mod.glob.keeps I.bk) hm h) hd
theorem ir{E:Value->Shared->Prop}{ae:List (Addr×Obj)}{s:Shared}{σ:St}{H:Hp}{x:Str}{u:Value}{pos:Pos}{Q:Value->Shared->Prop}(I:Inv X ae σ H s)(hg:Gl X x)(hm:X.mg x=none)(hv:bootBuiltins x=some u)(h:Q u s)
  (hn:x ≠ "__name__" := by decide) (hd:(x==("__debug__" : Str))=false:=by decide):wpAny (model X.prog X.w) X.A (eval (.Name x pos) X.env) Q E s:=by
 obtain⟨mb,h1,h2⟩:=I.mod.blt;exact Calls.Name_function_global I.ok.kind hg (Calls.loadGlobal_builtin (by rw[I.ok.glob]; exact I.mod.glob.keeps I.bk) hm (by rw[I.ok.blt]; exact h1.keeps I.bk) ((h2 x hn).trans hv) h) hd
theorem gD{x:Str}{v:V}{u:Value}{pos:Pos}(hg:Gl X x)(hm:X.mg x=some u)(r:RelV v u)(hd:(x==("__debug__" : Str))=false:=by decide):PE X (.Name x pos) (tC v):=
 .mk <| fun _ _ _ H _ I h=>tX I hg hm ⟨v,H,I,r,h⟩ hd
theorem ZW{x:Str}{v:V}{u:Value}{pos:Pos}(hg:Gl X x)(hm:X.mg x=none)(hv:bootBuiltins x=some u)(r:RelV v u)(hn:x ≠ "__name__" := by decide)(hd:(x==("__debug__" : Str))=false:=by decide):PE X (.Name x pos) (tC v):=
 .mk <| fun _ _ _ H _ I h=>ir I hg hm hv ⟨v,H,I,r,h⟩ hn hd
variable{a b:Expr}{ta tb:TE}{pos:Pos}
def tB(t:TE):TT:=fun σ H Q=>t σ H fun x H1=>∃c,x=.bl c/\Q c H1
theorem fY{e:Expr}{t:TE}(h:PE X e t)(he:∀whole,isTrue e X.env whole=(do let v <- whole; standAt e.pos; holding [v] (truthy v)):=by intro _; rfl):PT X e (tB t):=by
 symm;intro Q I hw;refine isTrue_plain (dI (h ae s σ H _ I hw) fun v s1 ⟨x,H1,I1,r1,q1⟩=>?_) (he _);obtain⟨d,rfl,q⟩:=q1;cases r1;exact Gj ⟨H1,I1,q⟩
variable{tA tB':TT}{rest:List Expr}
def aed(t u:TT):TT:=fun σ H Q=>t σ H fun c H1=>if c=true then u σ H1 Q else Q false H1
def tOr(t u:TT):TT:=fun σ H Q=>t σ H fun c H1=>if c=true then Q true H1 else u σ H1 Q
def ad_(t:TT):TT:=fun σ H Q=>t σ H fun c H1=>Q (!c) H1
theorem wN(ha:PT X a tA):PW X (.BoolOp .And [a] pos) tA:=by
 refine .mk ?_;intro wh ae s σ H Q I h;refine isTrue_and (dI (ha ae s σ H Q I h) fun c s1 e=>?_);cases c with
 | true=>exact isTrue_and_nil e
 | false=>exact e
theorem Gm(ha:PT X a tA):PW X (.BoolOp .Or [a] pos) tA:=by
 refine .mk ?_;intro wh ae s σ H Q I h;refine isTrue_or (dI (ha ae s σ H Q I h) fun c s1 e=>?_);cases c with
 | false=>exact isTrue_or_nil e
 | true=>exact e
theorem Gn(ha:PT X a tA)(hb:PW X (.BoolOp .And (b::rest) pos) tB'):PW X (.BoolOp .And (a::b::rest) pos) (aed tA tB'):=by
 refine .mk ?_;intro wh ae s σ H Q I h;refine isTrue_and (dI (ha ae s σ H _ I h) fun c s1 qx=>?_);obtain⟨H1,I1,q1⟩:=qx;cases c with
 | true=>exact hb wh ae s1 σ H1 Q I1 q1
 | false=>exact⟨H1,I1,q1⟩
theorem J0(ha:PT X a tA)(hb:PW X (.BoolOp .Or (b::rest) pos) tB'):PW X (.BoolOp .Or (a::b::rest) pos) (tOr tA tB'):=by
 refine .mk ?_;intro wh ae s σ H Q I h;refine isTrue_or (dI (ha ae s σ H _ I h) fun c s1 qx=>?_);obtain⟨H1,I1,q1⟩:=qx;cases c with
 | true=>exact⟨H1,I1,q1⟩
 | false=>exact hb wh ae s1 σ H1 Q I1 q1
theorem Gp(ha:PT X a tA):PT X (.UnaryOp .Not a pos) (ad_ tA):=by
 symm;intro Q I h;exact isTrue_not (ha ae s σ H (fun c H1=>Q (!c) H1) I h)
def aa5(ta tb:TE):TE:=fun σ H Q=>ta σ H fun x H1=>∃c,x=.bl c/\if c=true then tb σ H1 Q else Q (.bl false) H1
def ad9(ta tb:TE):TE:=fun σ H Q=>ta σ H fun x H1=>∃c,x=.bl c/\if c=true then Q (.bl true) H1 else tb σ H1 Q
def aa0(ta:TE):TE:=fun σ H Q=>ta σ H fun x H1=>∃c,x=.bl c/\Q (.bl (!c)) H1
theorem qZ{op}{t:TE}(h:PE X a t):PE X (.BoolOp op [a] pos) t:=.mk <| fun ae s σ H Q I hw=>BoolOp_one (h ae s σ H Q I hw)
theorem pq(ha:PE X a ta)(hb:PE X (.BoolOp .And (b::rest) pos) tb):PE X (.BoolOp .And (a::b::rest) pos) (aa5 ta tb):=by
 symm;intro Q I h;refine BoolOp_and (dI (ha ae s σ H _ I h) fun v s1 qx=>?_);obtain⟨x,H1,I1,r1,q1⟩:=qx;obtain⟨c,rfl,q1⟩:=q1;cases r1;refine Gj ?_;cases c with
 | true=>exact hb ae s1 σ H1 Q I1 q1
 | false=>exact⟨.bl false,H1,I1,rfl,q1⟩
theorem abf(ha:PE X a ta)(hb:PE X (.BoolOp .Or (b::rest) pos) tb):PE X (.BoolOp .Or (a::b::rest) pos) (ad9 ta tb):=by
 symm;intro Q I h;refine BoolOp_or (dI (ha ae s σ H _ I h) fun v s1 qx=>?_);obtain⟨x,H1,I1,r1,q1⟩:=qx;obtain⟨c,rfl,q1⟩:=q1;cases r1;refine Gj ?_;cases c with
 | false=>exact hb ae s1 σ H1 Q I1 q1
 | true=>exact⟨.bl true,H1,I1,rfl,q1⟩
theorem Wx(ha:PE X a ta):PE X (.UnaryOp .Not a pos) (aa0 ta):=by
 symm;intro Q I h;refine UnaryOp_ (dI (ha ae s σ H _ I h) fun v s1 qx=>?_);obtain⟨x,H1,I1,r1,q1⟩:=qx;obtain⟨c,rfl,q1⟩:=q1;cases r1;exact not_of (Gj ⟨.bl (!c),H1,I1,rfl,q1⟩)
def tIf(t:TT)(ta tb:TE):TE:=fun σ H Q=>t σ H fun c H1=>if c=true then ta σ H1 Q else tb σ H1 Q
theorem cM{c:Expr}(hc:PT X c tA)(ha:PE X a ta)(hb:PE X b tb):PE X (.IfExp c a b pos) (tIf tA ta tb):=by
 symm;intro Q I h;refine wpAny_IfExp (dI (hc ae s σ H _ I h) fun d s1 qx=>?_);obtain⟨H1,I1,q1⟩:=qx;cases d with
 | true=>exact ha ae s1 σ H1 Q I1 q1
 | false=>exact hb ae s1 σ H1 Q I1 q1
end
def d7(K:Frag)(H:Hp)(a:Addr)(xs:List V):Prop:=
 Rd H a (.lst xs) \/
  ∃(o:Obj)(its:Array Value)(n:Nat),K.lookup a=some o/\o.cls=.type "list" /\ o.dict=none/\o.data=.seq its n/\its.size<=sizeLine/\Vals xs its.toList
def cB(K:Frag)(H:Hp)(a:Addr)(xs:List V):Prop:=
 Rd H a (.tup xs) \/
  ∃(o:Obj)(its:Array Value)(n:Nat),K.lookup a=some o/\o.cls=.type "tuple" /\ o.data=.seq its n/\its.size<=sizeLine/\Vals xs its.toList
def ait:Value->Option V
 | .none=>some .non
 | .bool b=>some (.bl b)
 | .int i _=>some (.int i)
 | .str x _=>some (.str x)
 | .bytes b _=>some (.U6 b)
 | .float b _=>some (.flt b)
 | .ref a=>some (.ref a)
 | .type n=>some (.ty n)
 | _=>none
theorem RelV.abs{x:V}{u:Value}(r:RelV x u):ait u=some x:=by
 cases x with
 | non=>cases r; rfl
 | bl _=>cases r; rfl
 | int _=>obtain⟨t,rfl⟩:=r; rfl
 | str _=>obtain⟨t,rfl⟩:=r; rfl
 | U6 _=>obtain⟨t,rfl⟩:=r; rfl
 | flt _=>obtain⟨t,rfl⟩:=r; rfl
 | ref _=>cases r; rfl
 | ty _=>cases r; rfl
theorem RelV.inj{x y:V}{u:Value}(r:RelV x u)(q:RelV y u):x=y:=Option.some.inj (r.abs.symm.trans q.abs)
theorem Vals.inj:∀{xs ys:List V}{us:List Value},Vals xs us->Vals ys us->xs=ys
 | _,_,_,.nil,.nil=>rfl
 | _,_,_,.cons r t,.cons r' t'=>by rw[r.inj r',Vals.inj t t']
section
variable{X:Cx}{ae:List (Addr×Obj)}{σ:St}{H:Hp}{s:Shared}{a:Addr}{xs ys:List V}
theorem d7.of{K:Frag}(h:H a=some (.lst xs)):d7 K H a xs:=.inl (.inl h)
theorem cB.of{K:Frag}(h:H a=some (.tup xs)):cB K H a xs:=.inl (.inl h)
theorem Inv.list(I:Inv X ae σ H s)(h:d7 X.K H a xs):∃its:List Value,Vals xs its/\PlainL s.heap a its.toArray/\xs.length<=sizeLine:=by
 rcases h with h | ⟨o,its,n,hk,hc,hd,hs,hz,r⟩
 ·obtain⟨z,its,n,r,e⟩:=h.ok I.hok;exact⟨its,r,⟨_,n,e,rfl,rfl,rfl⟩,z⟩
 ·refine⟨its.toList,r,⟨o,n,I.qg a o hk,hc,hd,by simpa using hs⟩,?_⟩
  have e:=r.length;simp only[nP] at e;omega
theorem Inv.tuple(I:Inv X ae σ H s)(h:cB X.K H a xs):∃its:List Value,Vals xs its/\IsTup s.heap a its.toArray/\xs.length<=sizeLine:=by
 rcases h with h | ⟨o,its,n,hk,hc,hs,hz,r⟩
 ·obtain⟨z,its,r,p⟩:=h.ok I.hok;exact⟨its,r,p,z⟩
 ·refine⟨its.toList,r,⟨o,I.qg a o hk,hc,n,by simpa using hs⟩,?_⟩
  have e:=r.length;simp only[nP] at e;omega
theorem Inv.zf(I:Inv X ae σ H s)(h:d7 X.K H a xs)(h':d7 X.K H a ys):xs=ys:=by
 obtain⟨its,r,⟨o,n,e,_,_,d⟩,_⟩:=I.list h;obtain⟨its',r',⟨o',n',e',_,_,d'⟩,_⟩:=I.list h';rw[e] at e'; cases e';rw[d] at d';injection d' with d1 _
 have:its=its':=by simpa using jF Array.toList d1
 subst this;exact r.inj r'
theorem Inv.uA(I:Inv X ae σ H s)(h:cB X.K H a xs)(h':cB X.K H a ys):xs=ys:=by
 obtain⟨its,r,⟨o,e,_,n,d⟩,_⟩:=I.tuple h;obtain⟨its',r',⟨o',e',_,n',d'⟩,_⟩:=I.tuple h';rw[e] at e'; cases e';rw[d] at d';injection d' with d1 _
 have:its=its':=by simpa using jF Array.toList d1
 subst this;exact r.inj r'
end
abbrev Cx.wish(X:Cx)(E:Value->Shared->Prop):Cx:={ X with xe:=E }
abbrev Cx.nox(X:Cx):Cx:=X.wish fun _ _=>False
theorem Cx.Ok.wish{X:Cx}(ok:X.Ok)(E:Value->Shared->Prop):(X.wish E).Ok:=
 ⟨ok.mod,ok.kind,ok.glob,ok.blt,ok.above,ok.inj,ok.has,ok.cab,ok.hd,ok.frames,ok.stk,ok.exf,ok.bs,ok.U7,ok.Kl,ok.Og,ok.wy,ok.frf⟩
theorem Cx.Ok.nU{X:Cx}{E:Value->Shared->Prop}(ok:(X.wish E).Ok):X.Ok:=
 ⟨ok.mod,ok.kind,ok.glob,ok.blt,ok.above,ok.inj,ok.has,ok.cab,ok.hd,ok.frames,ok.stk,ok.exf,ok.bs,ok.U7,ok.Kl,ok.Og,ok.wy,ok.frf⟩
section
variable{X:Cx}{ae:List (Addr×Obj)}{σ:St}{H:Hp}{s:Shared}{E:Value->Shared->Prop}
theorem Inv.wish(I:Inv X ae σ H s)(E:Value->Shared->Prop):Inv (X.wish E) ae σ H s:=⟨I.ok.wish E,I.os,I.bare,I.base,I.loc,I.cell,I.free,I.kW,I.pin,I.hok,I.len⟩
theorem Inv.nU(I:Inv (X.wish E) ae σ H s):Inv X ae σ H s:=⟨I.ok.nU,I.os,I.bare,I.base,I.loc,I.cell,I.free,I.kW,I.pin,I.hok,I.len⟩
theorem SP.nU{D:Ends}{f:Flow}{s':Shared}(h:SP (X.wish E) ae D f s'):SP X ae D f s':=by
 cases f with
 | next=>obtain⟨σ',H',I,q⟩:=h; exact⟨σ',H',I.nU,q⟩
 | brk=>obtain⟨σ',H',I,q⟩:=h; exact⟨σ',H',I.nU,q⟩
 | cont=>obtain⟨σ',H',I,q⟩:=h; exact⟨σ',H',I.nU,q⟩
 | ret u=>obtain⟨v,σ',H',I,r,q⟩:=h; exact⟨v,σ',H',I.nU,r,q⟩
theorem BK.nox{st:List Stmt}{t:TS}(h:BK X.nox st t):BK X st t:=.mk <| fun ae s σ H D I hw=>
 iM (h ae s σ H D (I.wish _) hw) (fun _ _ q=>q.nU) fun _ _ z=>False.elim z
end
section
variable{X:Cx}{st:Stmt}{rest:List Stmt}{t u:TS}{e:Expr}{te:TE}{pos:Pos}
def aa1:TS:=fun D σ H=>D.nx σ H
def Vv(t u:TS):TS:=fun D σ H=>t { D with nx:=u D } σ H
theorem bM:BK X [] aa1:=.mk <| fun _ _ σ H _ I h=>Dh ⟨σ,H,I,h⟩
theorem aq(h1:PS X st t)(h2:BK X rest u):BK X (st::rest) (Vv t u):=by
 symm;intro D I h;refine wpAny_execs_cons (dI (h1 ae s σ H { D with nx:=u D } I h) fun f s1 q=>?_)
 cases f with
 | next=>
  obtain⟨σ',H',I',q⟩:=q;exact h2 ae s1 σ' H' D I' q
 | ret v=>exact q
 | brk=>exact q
 | cont=>exact q
theorem aG(h1:PS X st t):BK X [st] t:=by
 symm;intro D I h;refine wpAny_execs_cons (dI (h1 ae s σ H D I h) fun f s1 q=>?_);cases f with
 | next=>exact Dh q
 | ret v=>exact q
 | brk=>exact q
 | cont=>exact q
theorem Inv.quiet{ae:List (Addr×Obj)}{σ:St}{H:Hp}{s:Shared}(I:Inv X ae σ H s):interactive X.env=false:=by simp[interactive,I.ok.kind]
def Vz(te:TE):TS:=fun D σ H=>te σ H fun _ H1=>D.nx σ H1
theorem eQ(he:PE X e te)(hs:swapsWith e none pos.line X.env=pure false:=by rfl):PS X (.Expr e pos) (Vz te):=by
 symm;intro D I h;exact wpAny_Expr_any (dI (he ae s σ H _ I h) fun v s1 ⟨x,H1,I1,r1,q1⟩=>⟨σ,H1,I1,q1⟩) I.quiet hs
def ad6(te:TE):TS:=fun D σ H=>te σ H D.rt
theorem aZ(he:PE X e te):PS X (.Return (some e) pos) (ad6 te):=by
 symm;intro D I h;exact wpAny_Return_some (dI (he ae s σ H _ I h) fun v s1 ⟨x,H1,I1,r1,q1⟩=>⟨x,σ,H1,I1,r1,q1⟩)
def ad5:TS:=fun D _ H=>D.rt .non H
def Zj(c:TT)(t u:TS):TS:=fun D σ H=>c σ H fun b H1=>if b=true then t D σ H1 else u D σ H1
theorem cX{c:Expr}{a b:List Stmt}{tc:TT}(hc:PT X c tc)(ha:BK X a t)(hb:BK X b u):PS X (.If c a b pos) (Zj tc t u):=by
 symm;intro D I h;refine wpAny_If (dI (hc ae s σ H _ I h) fun d s1 qx=>?_);obtain⟨H1,I1,q1⟩:=qx;cases d with
 | true=>exact ha ae s1 σ H1 D I1 q1
 | false=>exact hb ae s1 σ H1 D I1 q1
end
abbrev TG:=V->St->Hp->(St->Hp->Prop)->Prop
abbrev Yw:=List V->St->Hp->(St->Hp->Prop)->Prop
structure PG(X:Cx)(target:Expr)(t:TG):Prop where
 mk ::
 go :
 ∀(ae:List (Addr×Obj))(s:Shared)(σ:St)(H:Hp)(v:V)(u:Value)(Q:St->Hp->Prop),Inv X ae σ H s->RelV v u->t v σ H Q ->
  wpAny (model X.prog X.w) X.A (assign target X.env u) (fun _ s'=>∃σ' H',Inv X ae σ' H' s'/\Q σ' H') X.xe s
instance {X:Cx} {target:Expr} {t:TG}:CoeFun (PG X target t) (fun _=>
 ∀(ae:List (Addr×Obj))(s:Shared)(σ:St)(H:Hp)(v:V)(u:Value)(Q:St->Hp->Prop),Inv X ae σ H s->RelV v u->t v σ H Q ->
  wpAny (model X.prog X.w) X.A (assign target X.env u) (fun _ s'=>∃σ' H',Inv X ae σ' H' s'/\Q σ' H') X.xe s):=⟨PG.go⟩
structure PGs(X:Cx)(ts:List Expr)(t:Yw):Prop where
 mk ::
 go :
 ∀(ae:List (Addr×Obj))(s:Shared)(σ:St)(H:Hp)(vs:List V)(us:List Value)(Q:St->Hp->Prop),Inv X ae σ H s->Vals vs us->t vs σ H Q ->
  wpAny (model X.prog X.w) X.A (assignInOrder ((assignEach ts X.env).map (·.2)) us) (fun _ s'=>∃σ' H',Inv X ae σ' H' s'/\Q σ' H') X.xe s
instance {X:Cx} {ts:List Expr} {t:Yw}:CoeFun (PGs X ts t) (fun _=>
 ∀(ae:List (Addr×Obj))(s:Shared)(σ:St)(H:Hp)(vs:List V)(us:List Value)(Q:St->Hp->Prop),Inv X ae σ H s->Vals vs us->t vs σ H Q ->
  wpAny (model X.prog X.w) X.A (assignInOrder ((assignEach ts X.env).map (·.2)) us) (fun _ s'=>∃σ' H',Inv X ae σ' H' s'/\Q σ' H') X.xe s):=⟨PGs.go⟩
abbrev Ux:=V->V->V->Hp->(Hp->Prop)->Prop
structure Yy(X:Cx)(t:Ux):Prop where
 mk ::
 go :
 ∀(ae:List (Addr×Obj))(s:Shared)(σ:St)(H:Hp)(o i v:V)(ov iv u:Value)(Q:Hp->Prop),Inv X ae σ H s->RelV o ov->RelV i iv->RelV v u->t o i v H Q ->
  wpAny (model X.prog X.w) X.A (setItem ov iv u) (fun _ s'=>∃H',Inv X ae σ H' s'/\Q H') X.xe s
instance {X:Cx} {t:Ux}:CoeFun (Yy X t) (fun _=>
 ∀(ae:List (Addr×Obj))(s:Shared)(σ:St)(H:Hp)(o i v:V)(ov iv u:Value)(Q:Hp->Prop),Inv X ae σ H s->RelV o ov->RelV i iv->RelV v u->t o i v H Q ->
  wpAny (model X.prog X.w) X.A (setItem ov iv u) (fun _ s'=>∃H',Inv X ae σ H' s'/\Q H') X.xe s):=⟨Yy.go⟩
abbrev TIp:=V->V->Hp->VK->Prop
def PIp(X:Cx)(op:Operator)(t:TIp):Prop:=
 ∀(ae:List (Addr×Obj))(s:Shared)(σ:St)(H:Hp)(x y:V)(v u:Value)(Q:VK),Inv X ae σ H s->RelV x v->RelV y u->t x y H Q ->
  wpAny (model X.prog X.w) X.A (inplaceOp op v u) (EP X ae σ Q) X.xe s
section
variable{X:Cx}{pos:Pos}
def fV(i:Nat):TG:=fun v σ H Q=>Q (σ.set i (some v)) H
theorem aC{i:Nat}{x:Str}(hN:X.N.Nodup:=by exact ND)(hi:X.N[i]?=some x:=by rfl)(hx:Loc X.env.scope x:=by walk_at "o")(hf:X.fn x=true\/X.env.scope.names.lookup x=some .local:=by walk_at "h"):PG X (.Name x pos) (fV i):=by
 symm;intro v u Q I r h;exact wpAny_assign_Name (jt I hN hi hx r (fun s' I'=>⟨_,H,I',h⟩) hf)
def Hh:Yw:=fun vs σ H Q=>match vs with
 | []=>Q σ H
 | _=>False
theorem Hh.ex{vs:List V}{σ:St}{H:Hp}{Q:St->Hp->Prop}(h:Hh vs σ H Q):vs=[]/\Q σ H:=by
 cases vs with
 | nil=>exact⟨rfl,h⟩
 | cons a b=>exact h.elim
def mC(t:TG)(u:Yw):Yw:=fun vs σ H Q=>match vs with
 | v::r=>t v σ H fun σ' H'=>u r σ' H' Q
 | []=>False
theorem mC.ex{t:TG}{u:Yw}{vs:List V}{σ:St}{H:Hp}{Q:St->Hp->Prop}(h:mC t u vs σ H Q):∃v r,vs=v::r/\t v σ H fun σ' H'=>u r σ' H' Q:=by
 cases vs with
 | nil=>exact h.elim
 | cons a b=>exact⟨a,b,rfl,h⟩
theorem bF:PGs X [] Hh:=by
 symm;intro vs us Q I r h;obtain⟨e,h⟩:=Hh.ex h;subst e;cases r;exact assignInOrder_nil ⟨σ,H,I,h⟩
theorem aA{e:Expr}{es:List Expr}{t:TG}{u:Yw}(h1:PG X e t)(h2:PGs X es u)
  (hs:(assignEach (e::es) X.env).map (·.2)=assign e X.env::(assignEach es X.env).map (·.2):=by rfl):PGs X (e::es) (mC t u):=by
 symm;intro vs us Q I r h;obtain⟨v,vr,e1,h⟩:=mC.ex h;subst e1;cases r with
 | cons r rr=>
  rw[hs];refine assignInOrder_cons (dI (h1 ae s σ H _ _ _ I r h) fun _ s1 qx=>?_);obtain⟨σ1,H1,I1,q1⟩:=qx;exact h2 ae s1 σ1 H1 _ _ Q I1 rr q1
def T6(K:Frag)(n:Nat)(t:Yw):TG:=fun v σ H Q=>∃a xs,v=.ref a/\cB K H a xs/\xs.length=n/\t xs σ H Q
theorem acj{es:List Expr}{k:Nat}{t:Yw}{n:Nat}(hc:X.calm=true)(h:PGs X es t)
  (hn:(assignEach es X.env).length=n:=by rfl) (hst:(assignEach es X.env).findIdx? (·.1)=none:=by rfl):PG X (.Tuple es k pos) (T6 X.K n t):=by
 symm;intro v u Q I r hw;obtain⟨a,xs,e1,hq,hl,hw⟩:=hw;subst e1;cases r;obtain⟨its,rv,ht,hz⟩:=I.tuple hq;refine assign_Tuple_tuple (I.ok.hd hc) ht (by simp[hn,<- hl,rv.length]) hst fun h' hx=>?_
 have I1:Inv X ae σ H { s with heap:=h' }:=I.kept (t':=s.toks) fun b o e=>hx b o (gB (cI e)) e
 exact h ae _ σ H xs _ Q I1 (by simpa using rv) hw
def ae7(to ti:TE)(t:Ux):TG:=fun v σ H Q=>to σ H fun o H1=>ti σ H1 fun i H2=>t o i v H2 fun H3=>Q σ H3
theorem yN{o i:Expr}{to ti:TE}{t:Ux}(ho:PE X o to)(hi:PE X i ti)(hs:Yy X t)
  (ha:∀v,assign (.Subscript o i pos) X.env v=(do
   let ov <- holding [v] (eval o X.env)
   let iv <- holding [v,ov] (eval i X.env)
   standAt pos
   holding [v,ov,iv] (setItem ov iv v)
   release [v,ov,iv] []):=by intro _; rfl):PG X (.Subscript o i pos) (ae7 to ti t):=by
 symm;intro v u Q I r h;rw[ha];refine aY (nO (dI (ho ae s σ H _ I h) fun ov s1 qx=>?_));obtain⟨x,H1,I1,r1,q1⟩:=qx;refine aY (nO (dI (hi ae s1 σ H1 _ I1 q1) fun iv s2 qx=>?_));obtain⟨y,H2,I2,r2,q2⟩:=qx;refine aY (Gd (aY (nO (dI (hs ae s2 σ H2 x y v ov iv u _ I2 r1 r2 r q2) fun _ s3 qx=>?_))));obtain⟨H3,I3,q3⟩:=qx;exact wpAny_release ⟨σ,H3,I3,q3⟩
def Jc(te:TE)(g:TG):TS:=fun D σ H=>te σ H fun x H1=>g x σ H1 D.nx
theorem cJ{tg e:Expr}{te:TE}{g:TG}(he:PE X e te)(hg:PG X tg g)(hs:swapsWithSole [tg] e pos.line X.env=pure false:=by rfl)(hw:swappedStores [tg] e X.env=pure none:=by rfl)
  (h1:(assignEach [tg] X.env).map (·.2)=[assign tg X.env]:=by rfl):PS X (.Assign [tg] e pos) (Jc te g):=by
 symm;intro D I h;refine wpAny_Assign_stores (dI (he ae s σ H _ I h) fun v s1 ⟨x,H1,I1,r1,q1⟩=>?_) hs hw;rw[h1];exact dI (hg ae s1 σ H1 x v _ I1 r1 q1) fun _ s2 q=>q
theorem aX{i:Nat}{x:Str}{e:Expr}{te:TE}{pos':Pos}(he:PE X e te)(hN:X.N.Nodup:=by exact ND)(hi:X.N[i]?=some x:=by rfl)(hx:Loc X.env.scope x:=by walk_at "o")(hs:swapsWith e (some (.Name x pos')) pos.line X.env=pure false:=by rfl)(hf:X.fn x=true\/X.env.scope.names.lookup x=some .local:=by walk_at "h") :
  PS X (.Assign [.Name x pos'] e pos) (Jc te (fV i)):=by
 symm;intro D I h;refine wpAny_Assign_Name (dI (he ae s σ H _ I h) fun v s1 ⟨y,H1,I1,r1,q1⟩=>?_) hs;exact jt I1 hN hi hx r1 (fun s2 I2=>⟨_,H1,I2,q1⟩) hf
def ad8(i j:Nat)(ta:TA):TS:=fun D σ H=>ta σ H fun vs H1=>∃v w,vs=[v,w]/\D.nx ((σ.set i (some v)).set j (some w)) H1
theorem uU{i j:Nat}{x y:Str}{a b:Expr}{ta:TA}{px py pt:Pos}{kt k2 pt2}(hc:X.calm=true)(hN:X.N.Nodup)(hi:X.N[i]?=some x)(hj:X.N[j]?=some y)(hij:i≠j)
  (hx:X.env.scope.names.lookup x=some .local) (hy:X.env.scope.names.lookup y=some .local) (ha:PA X [a,b] ta)
  (hw:swappedStores [.Tuple [.Name x px,.Name y py] kt pt] (.Tuple [a,b] k2 pt2) X.env=pure (some [x,y]))
  (hs:swapsWithSole [.Tuple [.Name x px,.Name y py] kt pt] (.Tuple [a,b] k2 pt2) pos.line X.env=pure false:=by rfl) :
  PS X (.Assign [.Tuple [.Name x px,.Name y py] kt pt] (.Tuple [a,b] k2 pt2) pos) (ad8 i j ta):=by
 symm;intro D I h;rw[exec_Assign_arm];refine aY (Gd ?_);rw[hs];refine aY (b_ ?_);rw[bD ⋯]
 refine aY (Tuple_ (dI (ha _ ae s σ H _ I h) fun us s1 qx=>?_));obtain⟨vs,H1,I1,r1,q1⟩:=qx;obtain⟨v,w,e1,q1⟩:=q1;subst e1
 obtain⟨u1,u2,rfl,rv,rw'⟩:∃u1 u2,us=[u1,u2]/\RelV v u1/\RelV w u2:=by
  cases r1 with
  | cons p q=>
   cases q with
   | cons p' q'=>
    cases q';exact⟨_,_,rfl,p,p'⟩
 refine vY ?_ (by show 2<=sizeLine; decide)
 have I2:Inv X ae σ H1 { s1 with heap:=s1.heap.push { cls:=.type "tuple",data:=.seq [u1,u2].toArray } }:=I1.kept (t':=s1.toks) fun b o e=>dJ _ e
 rw[hw];refine aY (b_ ?_);show wpAny (model X.prog X.w) X.A (do rule "assign.swapped-stores"; let items <- unpackItems (.ref s1.heap.objs.size) 2 none; assignInOrder [fun v=>bindName X.env y v,fun v=>bindName X.env x v] items.reverse; pure Flow.next) _ _ _
 refine aY (qH (aY (unpackItems_tuple (items:=#[u1,u2]) (I.ok.hd hc) (IsTup.new s1.heap _) fun h' hx'=>?_)));have I3:=I2.kept (h':=h') (t':=s1.toks) fun b o e=>hx' b o (gB (cI e)) e;show wpAny _ _ (assignInOrder [fun v=>bindName X.env y v,fun v=>bindName X.env x v] [u2,u1] >>= fun _=>pure Flow.next) _ _ _;refine aY (assignInOrder_cons (wpAny_bindName (jt I3 hN hj (.inl hy) rw' (fun s2 I4=>?_) (.inr hy))));refine assignInOrder_cons (wpAny_bindName (jt I4 hN hi (.inl hx) rv (fun s3 I5=>assignInOrder_nil (b_ ?_)) (.inr hx)));rw[List.set_comm _ _ (Ne.symm hij)] at I5;exact⟨_,H1,I5,q1⟩
def aec(i:Nat)(te:TE)(ti:TIp):TS:=fun D σ H=>∃x,σ[i]?=some (some x)/\te σ H fun y H1=>ti x y H1 fun z H2=>D.nx (σ.set i (some z)) H2
theorem yL{i:Nat}{x:Str}{e:Expr}{te:TE}{op:Operator}{ti:TIp}{pos':Pos}(hN:X.N.Nodup)(hi:X.N[i]?=some x)(hx:Loc X.env.scope x)(he:PE X e te)(ho:PIp X op ti)(hf:X.fn x=true\/X.env.scope.names.lookup x=some .local:=by walk_at "h") :
  PS X (.AugAssign (.Name x pos') op e pos) (aec i te ti):=by
 symm;intro D I h;obtain⟨v,e1,h⟩:=h;obtain⟨m,hn,hl⟩:=I.loc;have vis:Vis X.env.scope x:=by rcases hx with k | k; exact .inl k; exact .inr (.inl k)
 obtain⟨u,r,l⟩:=hl i x v hi e1 vis;refine wpAny_AugAssign_Name ?_
 have go:wpAny (model X.prog X.w) X.A (eval e X.env) (fun w s₂=>wpAny (model X.prog X.w) X.A (inplaceOp op u w) (fun r s₃=>wpAny (model X.prog X.w) X.A (storeName X.env x r) (fun _=>SP X ae D .next) X.xe s₃) X.xe s₂) X.xe s:=by
  refine dI (he ae s σ H _ I h) fun w s1 qx=>?_;obtain⟨y,H1,I1,r1,q1⟩:=qx;refine dI (ho ae s1 σ H1 v y u w _ I1 r r1 q1) fun z s2 qx=>?_;obtain⟨zv,H2,I2,r2,q2⟩:=qx;exact jt I2 hN hi hx r2 (fun s3 I3=>⟨_,H2,I3,q2⟩) hf
 rcases l with⟨hk,hm⟩ | ⟨hk,c,hc,hcell⟩
 ·exact wpAny_loadName_local I.ok.kind hk hn hm go
 ·rcases hk with hk | hk
  ·exact wpAny_loadName_cell I.ok.kind hk hc hcell go
  ·rcases hx with k | k
   ·have:X.env.scope.names.lookup x=some .free:=hk;rw[k] at this; cases this
   ·have:X.env.scope.names.lookup x=some .free:=hk;rw[k] at this; cases this
def aa4(to ti te:TE)(Zi:V->V->Hp->VK->Prop)(tip:TIp)(Zh:Ux):TS:=fun D σ H=>to σ H fun o H1=>ti σ H1 fun i H2=>Zi o i H2 fun x H3=>te σ H3 fun y H4=>tip x y H4 fun z H5=>Zh o i z H5 fun H6=>D.nx σ H6
def afn(X:Cx)(t:V->V->Hp->VK->Prop):Prop:=
 ∀(ae:List (Addr×Obj))(s:Shared)(σ:St)(H:Hp)(o i:V)(ov iv:Value)(Q:VK),Inv X ae σ H s->RelV o ov->RelV i iv->t o i H Q ->
  wpAny (model X.prog X.w) X.A (getItem ov iv) (EP X ae σ Q) X.xe s
theorem ZG{o i e:Expr}{to ti te:TE}{Zi:V->V->Hp->VK->Prop}{tip:TIp}{Zh:Ux}{op:Operator}{tpos:Pos}(ho:PE X o to)(hi:PE X i ti)(hg:afn X Zi)(he:PE X e te)(hp:PIp X op tip)(hs:Yy X Zh)
  (ha:∀ov iv new,augStore i ov iv new=(do holding [new,ov,iv] (setItem ov iv new); release [new,ov,iv] []; pure .next):=by intros; rfl):PS X (.AugAssign (.Subscript o i tpos) op e pos) (aa4 to ti te Zi tip Zh):=by
 symm;intro D I h;refine wpAny_AugAssign_SubscriptAny (dI (ho ae s σ H _ I h) fun ov s1 ⟨x1,H1,I1,r1,q1⟩=>?_) ha;refine dI (hi ae s1 σ H1 _ I1 q1) fun iv s2 qx=>?_;obtain⟨x2,H2,I2,r2,q2⟩:=qx;refine dI (hg ae s2 σ H2 x1 x2 ov iv _ I2 r1 r2 q2) fun old s3 qx=>?_;obtain⟨x3,H3,I3,r3,q3⟩:=qx;refine dI (he ae s3 σ H3 _ I3 q3) fun v s4 qx=>?_;obtain⟨x4,H4,I4,r4,q4⟩:=qx;refine dI (hp ae s4 σ H4 x3 x4 old v _ I4 r3 r4 q4) fun new s5 qx=>?_;obtain⟨x5,H5,I5,r5,q5⟩:=qx;exact dI (hs ae s5 σ H5 x1 x2 x5 ov iv new _ I5 r1 r2 r5 q5) fun _ s6 ⟨H6,I6,q6⟩=>⟨σ,H6,I6,q6⟩
def ipI(f:Int->Int->Int):TIp:=fun x y H Q=>∃i j,x=.int i/\y=.int j/\Q (.int (f i j)) H
theorem Ny:PIp X .Add (ipI fun i j=>i+j):=by
 intro ae s σ H x y v u Q I r1 r2 h;obtain⟨i,j,e1,e2,q⟩:=h;subst e1; subst e2;obtain⟨t,rfl⟩:=r1;obtain⟨t',rfl⟩:=r2;exact iadd_int ⟨.int _,H,I.tok _,⟨_,rfl⟩,q⟩
theorem Nx:PIp X .Sub (ipI fun i j=>i-j):=by
 intro ae s σ H x y v u Q I r1 r2 h;obtain⟨i,j,e1,e2,q⟩:=h;subst e1; subst e2;obtain⟨t,rfl⟩:=r1;obtain⟨t',rfl⟩:=r2;exact isub_int ⟨.int _,H,I.tok _,⟨_,rfl⟩,q⟩
end
section
variable{X:Cx}{pos:Pos}
def abS(c:TT)(tb:TS):TS:=fun D σ H=>∃W:Nat->St->Hp->Prop,(∃m,W m σ H)/\∀m σ H,W m σ H ->
 c σ H fun b H1=>if b=true then ∃N:St->Hp->Prop,(∀σ' H',N σ' H'->∃m',m'<m/\W m' σ' H')/\tb { D with nx:=N,ct:=N,bk:=D.nx } σ H1 else D.nx σ H1
theorem J5{c:Expr}{body:List Stmt}{tc:TT}{tb:TS}(hp:PassesOwn (model X.prog X.w) X.A X.env X.xe)(hc:PT X c tc)(hb:BK X body tb):PS X (.While c body [] pos) (abS tc tb):=by
 symm;intro D I h;obtain⟨W,⟨m0,w0⟩,turn⟩:=h;refine wpAny_While (codeAny_whileLoop (fun n s'=>∃σ' H',Inv X ae σ' H' s'/\W n σ' H') ?_ m0 ⟨σ,H,I,w0⟩);rintro n s1 ⟨σ1,H1,I1,w1⟩;refine yH hp (dI (hc ae s1 σ1 H1 _ I1 (turn n σ1 H1 w1)) fun b s2 qx=>?_);obtain⟨H2,I2,q2⟩:=qx;cases b with
 | true=>
  obtain⟨N,hN,q2⟩:=q2;rw[aL rfl];refine yH hp (dI (hb ae s2 σ1 H2 _ I2 q2) fun f s3 q3=>?_);cases f with
  | next=>
   obtain⟨σ3,H3,I3,n3⟩:=q3;obtain⟨m',hm,w3⟩:=hN σ3 H3 n3;exact⟨m',hm,σ3,H3,I3,w3⟩
  | cont=>
   obtain⟨σ3,H3,I3,n3⟩:=q3;obtain⟨m',hm,w3⟩:=hN σ3 H3 n3;exact⟨m',hm,σ3,H3,I3,w3⟩
  | brk=>exact q3
  | ret v=>exact q3
 | false=>
  rw[bD mj];exact Dh ⟨σ1,H2,I2,q2⟩
end
structure It where
 go:Nat->Hp->Prop
 xj:Nat->Hp->V->Hp->Prop
 stop:Nat->Hp->Prop
def g8(X:Cx)(ae:List (Addr×Obj))(H:Hp)(b:Addr):Prop:=
 H b=none/\b≠X.env.locals/\b∉X.fs/\(b∈X.ex\/X.s₀.heap.objs.size<=b)/\(∀x c,X.env.cells.lookup x=some c->c≠b)/\∀p∈X.pn++ae,p.1≠b
theorem Inv.rF{X:Cx}{ae:List (Addr×Obj)}{σ:St}{H H':Hp}{s:Shared}{b:Addr}(I:Inv X ae σ H s)(hb:s.heap.objs.size<=b)(hn:H' b=none):g8 X ae H' b:=by
 refine⟨hn,JG (lF I.lt hb),I.agH hb,.inr (qt I.sz hb),fun x c e z=>?_,fun p hp z=>?_⟩
 ·obtain⟨v,q⟩:=I.cell x c e;exact absurd (lF q.lt (by rw[z]; exact hb)) (uP _)
 ·exact absurd (lF (cI (I.pin p hp).1) (by rw[z]; exact hb)) (uP _)
structure Turn(P:Program)(w:World)(K:Frag)(tg:Expr)(J:It)(fp:List Addr)(it:Addr)(tn:Nat->Heap->Prop):Prop where
 mem:it∈fp
 obj:∀i h,tn i h->∀b∈fp,∃o,h.get? b=some o/\∀v,o.data≠.cell v
 keep:∀i h h',tn i h->(∀b∈fp,∀o,h.get? b=some o->h'.get? b=some o)->tn i h'
 item:∀(X:Cx),X.prog=P->X.w=w->X.K=K->X.calm=true->∀(i:Nat)(ae:List (Addr×Obj))(s:Shared)(σ:St)(H:Hp)(E:Value->Shared->Prop),Inv X ae σ H s->(∀b∈fp,g8 X ae H b)->tn i s.heap->J.go i H ->
  wpAny (model P w) X.A (pyNext (.ref it)) (fun r s1=>∃u,r=some u /\
   wpAny (model P w) X.A (letOwnedTupleGo tg (.ref it) u) (fun _ s2=>∃x H',Inv X ae σ H' s2/\RelV x u/\J.xj i H x H'/\tn (i+1) s2.heap/\∀b∈fp,H' b=none) E s1) E s
 done:∀(X:Cx),X.prog=P->X.w=w->X.K=K->X.calm=true->∀(i:Nat)(ae:List (Addr×Obj))(s:Shared)(σ:St)(H:Hp)(E:Value->Shared->Prop),Inv X ae σ H s->(∀b∈fp,g8 X ae H b)->tn i s.heap->J.stop i H ->
  wpAny (model P w) X.A (pyNext (.ref it)) (fun r s1=>r=none/\Inv X ae σ H s1) E s
 self:∀(A:Around)(i:Nat)(s:Shared)(Q:Value->Shared->Prop)(E:Value->Shared->Prop),tn i s.heap->Q (.ref it) s->wpAny (model P w) A (pyIter (.ref it)) Q E s
abbrev TI:=St->Hp->(It->Hp->Prop)->Prop
def PIE(X:Cx)(ae:List (Addr×Obj))(σ:St)(tg:Expr)(R:It->Hp->Prop)(itv:Value)(s2:Shared):Prop:=
 ∃(it:Addr)(fp:List Addr)(tn:Nat->Heap->Prop)(J:It)(H':Hp),itv=.ref it/\Inv X ae σ H' s2/\Turn X.prog X.w X.K tg J fp it tn/\tn 0 s2.heap/\(∀b∈fp,g8 X ae H' b)/\R J H'
structure PI(X:Cx)(tg iter:Expr)(wi:TI):Prop where
 mk ::
 go :
 ∀(ae:List (Addr×Obj))(s:Shared)(σ:St)(H:Hp)(R:It->Hp->Prop),Inv X ae σ H s->wi σ H R ->
  wpAny (model X.prog X.w) X.A (eval iter X.env) (fun v s1=>wpAny (model X.prog X.w) X.A (pyIter v) (PIE X ae σ tg R) X.xe s1) X.xe s
instance {X:Cx} {tg iter:Expr} {wi:TI}:CoeFun (PI X tg iter wi) (fun _=>
 ∀(ae:List (Addr×Obj))(s:Shared)(σ:St)(H:Hp)(R:It->Hp->Prop),Inv X ae σ H s->wi σ H R ->
  wpAny (model X.prog X.w) X.A (eval iter X.env) (fun v s1=>wpAny (model X.prog X.w) X.A (pyIter v) (PIE X ae σ tg R) X.xe s1) X.xe s):=⟨PI.go⟩
theorem Q9{M:Model}{A:Around}{E:Value->Shared->Prop}{s:Shared}{tg:Expr}{it:Addr}{u:Value}{o:Obj}{n:String}{vs:Array Value}{Q:Unit->Shared->Prop}(ho:s.heap.get? it=some o)(hc:o.cls=.type n)(hd:o.data=.fields vs)
  (hn:["enumerate","zip","dict_itemiterator","dict_reverseitemiterator","odict_iterator","itertools.zip_longest","itertools.pairwise"].contains n=false) (hQ:Q () s):wpAny M A (letOwnedTupleGo tg (.ref it) u) Q E s:=by
 unfold letOwnedTupleGo;cases tg <;> first
  | exact b_ hQ
  | (cases u <;> first
    | exact b_ hQ
    | (refine aY (wpAny_load ho ?_)
       rw[hc,hd];show wpAny M A (if(["enumerate","zip","dict_itemiterator","dict_reverseitemiterator","odict_iterator","itertools.zip_longest","itertools.pairwise"].contains n&&vs[0]?==some (rawInt _))=true then _ else _) Q E s
       rw[bD (by intro h; rw[hn,Bool.false_and] at h; cases h)]
       exact b_ hQ))
def Itl(K:Frag)(a:Addr):It:=
 ⟨fun i H=>∃xs x,d7 K H a xs/\xs[i]?=some x,fun i H x H'=>H'=H/\∀xs,d7 K H a xs->xs[i]?=some x,fun i H=>∃xs,d7 K H a xs/\xs.length<=i⟩
def Itt(K:Frag)(a:Addr):It:=
 ⟨fun i H=>∃xs x,cB K H a xs/\xs[i]?=some x,fun i H x H'=>H'=H/\∀xs,cB K H a xs->xs[i]?=some x,fun i H=>∃xs,cB K H a xs/\xs.length<=i⟩
def Ln(lo:Int)(n:Nat):It:=⟨fun i _=>i<n,fun i H x H'=>H'=H/\x=.int (lo+i),fun i _=>n<=i⟩
theorem RJ{P:Program}{w:World}{K:Frag}{tg:Expr}(a it:Addr):Turn P w K tg (Itl K a) [it] it (fun i h=>h.IsListIter it a i) where
 mem:=by simp
 obj:=fun i h st b hb=>by
  have e:b=it:=by simpa using hb
  subst e;obtain⟨o,e,c,d⟩:=st;exact⟨o,e,fun v z=>by rw[d] at z; cases z⟩
 keep:=fun i h h' st k=>st.at fun o e=>k it (by simp) o e
 item:=by
  intro X hP hw hK hc i ae s σ H E I hf st hg;subst hP hw hK;obtain⟨xs,x,hq,hx⟩:=hg;obtain⟨its,rv,p,hz⟩:=I.list hq;obtain⟨u,hu,ru⟩:=rv.get hx;obtain⟨f0,f1,f2,f3,f4,f5⟩:=hf it (by simp)
  refine wpAny_pyNext_list_item st p.isList (x:=u) (by simpa using hu) fun h' st' sb=>?_
  have I1:Inv X ae σ H { s with heap:=h' }:=I.turned (t':=s.toks) (fun b o hb e=>(sb.2 b hb).trans e) f0 f1 f3 f4 f5
  obtain⟨o,e,c,d⟩:=id st';exact⟨u,rfl,Q9 (s:={ s with heap:=h' }) e c d ⋯ ⟨x,H,I1,ru,⟨rfl,fun ys hy=>by rw[I.zf hy hq]; exact hx⟩,st',fun b hb=>(hf b hb).1⟩⟩
 done:=by
  intro X hP hw hK hc i ae s σ H E I hf st hg;subst hP hw hK;obtain⟨xs,hq,hx⟩:=hg;obtain⟨its,rv,p,hz⟩:=I.list hq;obtain⟨f0,f1,f2,f3,f4,f5⟩:=hf it (by simp)
  have hl:=rv.length;exact wpAny_pyNext_list_end (I.ok.hd hc) st p.isList (by simp; omega) fun h' eb=>⟨rfl,I.turned (t':=s.toks) (fun b o hb e=>eb b o hb e) f0 f1 f3 f4 f5⟩
 self:=fun _ _ _ _ _ st h=>wpAny_pyIter_listiter st h
theorem Lz{P:Program}{w:World}{K:Frag}{tg:Expr}(a it:Addr):Turn P w K tg (Itt K a) [it] it (fun i h=>h.IsTupleIter it a i) where
 mem:=by simp
 obj:=fun i h st b hb=>by
  have e:b=it:=by simpa using hb
  subst e;obtain⟨o,e,c,d⟩:=st;exact⟨o,e,fun v z=>by rw[d] at z; cases z⟩
 keep:=fun i h h' st k=>st.at fun o e=>k it (by simp) o e
 item:=by
  intro X hP hw hK hc i ae s σ H E I hf st hg;subst hP hw hK;obtain⟨xs,x,hq,hx⟩:=hg;obtain⟨its,rv,p,hz⟩:=I.tuple hq;obtain⟨u,hu,ru⟩:=rv.get hx;obtain⟨f0,f1,f2,f3,f4,f5⟩:=hf it (by simp)
  refine wpAny_pyNext_tuple_item st (show s.heap.IsTuple a its.toArray from p) (x:=u) (by simpa using hu) fun h' st' sb=>?_
  have I1:Inv X ae σ H { s with heap:=h' }:=I.turned (t':=s.toks) (fun b o hb e=>(sb.2 b hb).trans e) f0 f1 f3 f4 f5
  obtain⟨o,e,c,d⟩:=id st';exact⟨u,rfl,Q9 (s:={ s with heap:=h' }) e c d ⋯ ⟨x,H,I1,ru,⟨rfl,fun ys hy=>by rw[I.uA hy hq]; exact hx⟩,st',fun b hb=>(hf b hb).1⟩⟩
 done:=by
  intro X hP hw hK hc i ae s σ H E I hf st hg;subst hP hw hK;obtain⟨xs,hq,hx⟩:=hg;obtain⟨its,rv,p,hz⟩:=I.tuple hq;obtain⟨f0,f1,f2,f3,f4,f5⟩:=hf it (by simp)
  have hl:=rv.length;exact wpAny_pyNext_tuple_end (I.ok.hd hc) st (show s.heap.IsTuple a its.toArray from p) (by simp; omega) fun h' eb=>⟨rfl,I.turned (t':=s.toks) (fun b o hb e=>eb b o hb e) f0 f1 f3 f4 f5⟩
 self:=fun _ _ _ _ _ st h=>wpAny_pyIter_tupleiter st h
theorem LC{P:Program}{w:World}{K:Frag}{tg:Expr}(it:Addr)(lo:Int)(n:Nat):Turn P w K tg (Ln lo n) [it] it (fun i h=>IsRangeIter h it (lo+(i:Nat)*1) ((n:Int)-(i:Nat)) 1) where
 mem:=by simp
 obj:=fun i h st b hb=>by
  have e:b=it:=by simpa using hb
  subst e
  exact⟨_,st,fun v z=>by
   have z':Data.fields _=Data.cell v:=z
   cases z'⟩
 keep:=fun i h h' st k=>k it (by simp) _ st
 item:=by
  intro X hP hw hK hc i ae s σ H E I hf st hg;subst hP hw hK;obtain⟨f0,f1,f2,f3,f4,f5⟩:=hf it (by simp)
  have W:=Walks.range (prog:=X.prog) (w:=X.w) (I.ok.hd hc) it lo 1 n;refine W.item i s _ _ hg st fun v h' tk hv st' kk=>?_;obtain⟨t,rfl⟩:=hv;have I1:Inv X ae σ H { s with heap:=h',toks:=tk }:=I.turned (fun b o hb e=>kk b o (by simpa using hb) e) f0 f1 f3 f4 f5
  refine⟨_,rfl,Q9 (s:={ s with heap:=h',toks:=tk }) (n:="range_iterator") st' rfl rfl ⋯ ⟨.int (lo+i),H,I1,⟨t,?_⟩,⟨rfl,rfl⟩,st',fun b hb=>(hf b hb).1⟩⟩
  rw[Int.mul_one]
 done:=by
  intro X hP hw hK hc i ae s σ H E I hf st hg;subst hP hw hK;obtain⟨f0,f1,f2,f3,f4,f5⟩:=hf it (by simp)
  exact wpAny_pyNext_range_end (I.ok.hd hc) st (by have:n<=i:=hg; omega) fun h' eb=>⟨rfl,I.turned (t':=s.toks) (fun b o hb e=>eb b o hb e) f0 f1 f3 f4 f5⟩
 self:=fun _ _ _ _ _ st h=>Wj st h
section
variable{X:Cx}{tg:Expr}
def zy(K:Frag)(tl:TE):TI:=fun σ H R=>tl σ H fun x H1=>∃a,x=.ref a/\(∃xs,d7 K H1 a xs)/\R (Itl K a) H1
def zx(K:Frag)(tl:TE):TI:=fun σ H R=>tl σ H fun x H1=>∃a,x=.ref a/\(∃xs,cB K H1 a xs)/\R (Itt K a) H1
theorem ZR{l:Expr}{tl:TE}(hl:PE X l tl):PI X tg l (zy X.K tl):=by
 symm;intro R I h;refine dI (hl ae s σ H _ I h) fun v s1 qx=>?_;obtain⟨x,H1,I1,r1,q1⟩:=qx;obtain⟨a,e,⟨xs,hq⟩,q⟩:=q1;subst e;cases r1;obtain⟨its,rv,p,hz⟩:=I1.list hq;refine Ay p.isList ?_;refine⟨s1.heap.objs.size,[s1.heap.objs.size],_,_,H1,rfl,I1.kept (t':=s1.toks) fun b o e=>dJ _ e,RJ a _,⟨_,dF _ rfl,rfl,rfl⟩,fun b hb=>?_,q⟩;have e:b=s1.heap.objs.size:=by simpa using hb
 subst e;exact I1.rF (dM _) (I1.hok.fresh (dM _))
theorem ach{l:Expr}{tl:TE}(hl:PE X l tl):PI X tg l (zx X.K tl):=by
 symm;intro R I h;refine dI (hl ae s σ H _ I h) fun v s1 qx=>?_;obtain⟨x,H1,I1,r1,q1⟩:=qx;obtain⟨a,e,⟨xs,hq⟩,q⟩:=q1;subst e;cases r1;obtain⟨its,rv,p,hz⟩:=I1.tuple hq;refine Jx (show s1.heap.IsTuple a its.toArray from p) ?_;refine⟨s1.heap.objs.size,[s1.heap.objs.size],_,_,H1,rfl,I1.kept (t':=s1.toks) fun b o e=>dJ _ e,Lz a _,⟨_,dF _ rfl,rfl,rfl⟩,fun b hb=>?_,q⟩;have e:b=s1.heap.objs.size:=by simpa using hb
 subst e;exact I1.rF (dM _) (I1.hok.fresh (dM _))
theorem Jt{ae:List (Addr×Obj)}{σ:St}{H:Hp}{s:Shared}{R:It->Hp->Prop}{E:Value->Shared->Prop}{lo hi:Int}{t u v:Tok}{tk:Nat}(I:Inv X ae σ H s)(h1:-(2 ^ 62)<=lo)(h2:lo<2 ^ 62)(h3:-(2 ^ 62)<=hi)(h4:hi<2 ^ 62)
  (q:R (Ln lo (hi-lo).toNat) H):wpAny (model X.prog X.w) X.A (pyIter (.ref s.heap.objs.size)) (PIE X ae σ tg R) E { s with heap:=s.heap.push { cls:=.type "range",data:=.fields #[.int lo t,.int hi u,.int 1 v] },toks:=tk }:=by
 refine wpAny_pyIter_range (IsRange.new ..) (small_one h1 h2 h3 h4) ?_;have I1:Inv X ae σ H { s with heap:=s.heap.push { cls:=.type "range",data:=.fields #[.int lo t,.int hi u,.int 1 v] },toks:=tk }:=I.kept fun b o e=>dJ _ e
 refine⟨(s.heap.push { cls:=.type "range",data:=.fields #[.int lo t,.int hi u,.int 1 v] }).objs.size,[(s.heap.push { cls:=.type "range",data:=.fields #[.int lo t,.int hi u,.int 1 v] }).objs.size],_,_,H,rfl,
  I1.kept (t':=tk) fun b o e=>dJ _ e,LC _ lo (hi-lo).toNat,?_,fun b hb=>?_,q⟩
 ·have e1:lo+((0:Nat):Int)*1=lo:=by simp
  have e2:(((hi-lo).toNat:Nat):Int)-((0:Nat):Int)=Builtin.Range.rangeSize lo hi 1:=by rw[rangeSize_one]; split <;> omega
  show IsRangeIter _ _ (lo+((0:Nat):Int)*1) ((((hi-lo).toNat:Nat):Int)-((0:Nat):Int)) 1;rw[e1,e2];exact dF _ rfl
 ·have e:b=(s.heap.push { cls:=.type "range",data:=.fields #[.int lo t,.int hi u,.int 1 v] }).objs.size:=by simpa using hb
  subst e;exact I1.rF (dM _) (I1.hok.fresh (dM _))
def DP(ta:TA):TI:=fun σ H R=>ta σ H fun vs H1=>∃j:Int,vs=[.int j]/\-(2 ^ 62)<=j/\j<2 ^ 62/\R (Ln 0 j.toNat) H1
def abp(ta:TA):TI:=fun σ H R=>ta σ H fun vs H1=>∃i j:Int,vs=[.int i,.int j]/\(-(2 ^ 62)<=i/\i<2 ^ 62/\-(2 ^ 62)<=j/\j<2 ^ 62)/\R (Ln i (j-i).toNat) H1
theorem jO{a:Expr}{ta:TA}{p pos:Pos}(hg:Gl X "range")(hm:X.mg "range" = none)(ha:PA X [a] ta)(hs:starEach [a] X.env=[(false,eval a X.env)]:=by rfl):PI X tg (.Call (.Name "range" p) [a] [] pos) (DP ta):=by
 symm;intro R I h;refine Call_ (ir I hg hm boot_range (PyProof.Rows.callWith_type1 (dI (ha pos ae s σ H _ I h) fun us s1 ⟨vs,H1,I1,r1,q1⟩=>?_) hs rfl));obtain⟨j,e,q1,q2,q⟩:=q1;subst e;cases r1 with
 | cons r rr=>
  cases rr;obtain⟨t,rfl⟩:=r;exact call_range_1 (Jt I1 ∅ ∅ q1 q2 (by simpa using q))
theorem Dr{a b:Expr}{ta:TA}{p pos:Pos}(hg:Gl X "range")(hm:X.mg "range" = none)(ha:PA X [a,b] ta)(hs:starEach [a,b] X.env=[(false,eval a X.env),(false,eval b X.env)]:=by rfl)(hs2:starEach [b] X.env=[(false,eval b X.env)]:=by rfl) :
  PI X tg (.Call (.Name "range" p) [a,b] [] pos) (abp ta):=by
 symm;intro R I h;refine Call_ (ir I hg hm boot_range (PyProof.Rows.callWith_type1 (dI (ha pos ae s σ H _ I h) fun us s1 ⟨vs,H1,I1,r1,q1⟩=>?_) (by rw[hs,hs2]) (by rw[hs2]; rfl)))
 obtain⟨i,j,e,⟨q1,q2,q3,q4⟩,q⟩:=q1;subst e;cases r1 with
 | cons r rr=>
  cases rr with
  | cons r' rr=>
   cases rr;obtain⟨t,rfl⟩:=r;obtain⟨t',rfl⟩:=r';exact call_range_2 (Jt I1 q1 q2 q3 q4 q)
def Aq(wi:TI)(g:TG)(tb:TS):TS:=fun D σ H=>wi σ H fun J H1=>∃W:Nat->Nat->St->Hp->Prop,(∃m,W 0 m σ H1)/\∀i m σ H,W i m σ H ->
 (J.stop i H/\D.nx σ H)\/(J.go i H/\∃N:St->Hp->Prop,(∀σ' H',N σ' H'->∃m',m'<m/\W (i+1) m' σ' H')/\∀x H',J.xj i H x H'->g x σ H' fun σ2 H2=>tb { D with nx:=N,ct:=N,bk:=D.nx } σ2 H2)
def Gq(fp:List Addr)(h:Heap):List (Addr×Obj):=fp.filterMap fun b=>(h.get? b).map fun o=>(b,o)
theorem d_{fp:List Addr}{h:Heap}{b:Addr}{o:Obj}(hb:b∈fp)(e:h.get? b=some o):(b,o)∈Gq fp h:=List.mem_filterMap.mpr ⟨b,hb,by rw[e]; rfl⟩
theorem Tc{fp:List Addr}{h:Heap}{p:Addr×Obj}(hp:p∈Gq fp h):p.1∈fp/\h.get? p.1=some p.2:=by
 obtain⟨b,hb,e⟩:=List.mem_filterMap.mp hp;cases q:h.get? b with
 | none=>rw[q] at e; cases e
 | some o=>
  rw[q] at e;have e':(b,o)=p:=Option.some.inj e;subst e';exact⟨hb,q⟩
theorem Inv.pinned{ae:List (Addr×Obj)}{σ:St}{H:Hp}{s:Shared}{fp:List Addr}(I:Inv X ae σ H s)(hf:∀b∈fp,g8 X ae H b)(ho:∀b∈fp,∃o,s.heap.get? b=some o/\∀v,o.data≠.cell v):Inv X (ae++Gq fp s.heap) σ H s:=
 I.Qs fun p hp=>(lE.mp hp).elim (fun z=>I.pin p (i_ _ z)) fun z=>by
  obtain⟨hb,e⟩:=Tc z;obtain⟨f0,f1,f2,_⟩:=hf p.1 hb;obtain⟨o,e',d⟩:=ho p.1 hb;rw[e] at e'; cases e';exact⟨e,f0,f1,f2,d⟩
theorem Inv.jq{ae pl:List (Addr×Obj)}{σ:St}{H:Hp}{s:Shared}(I:Inv X (ae++pl) σ H s):Inv X ae σ H s:=I.Qs fun p hp=>I.pin p (i_ _ (Mt _ hp))
theorem fZ{iter:Expr}{body:List Stmt}{wi:TI}{g:TG}{tb:TS}{pos:Pos}(hp:PassesOwn (model X.prog X.w) X.A X.env X.xe)(hc:X.calm=true)(hi:PI X tg iter wi)(hg:PG X tg g)(hb:BK X body tb)
  (hs:∀x,foldedSetIterable iter X.env x=pure x:=by intro _; rfl):PS X (.For tg iter body [] pos) (Aq wi g tb):=by
 symm;intro D I h;refine wpAny_For (dI (hi ae s σ H _ I h) fun v s1 h1=>dI h1 fun itv s2 h2=>?_) hs;obtain⟨it,fp,tn,J,H2,e,I2,T,st2,f2,W,⟨m0,w0⟩,turn⟩:=h2;subst e;have stat:∀{H':Hp},(∀b∈fp,H' b=none)->∀b∈fp,g8 X ae H' b:=fun hn b hb=>⟨hn b hb,(f2 b hb).2⟩;refine codeAny_forLoop_any (fun n s'=>∃i σ' H',Inv X ae σ' H' s'/\tn i s'.heap/\(∀b∈fp,H' b=none)/\W i n σ' H') ?_ m0 ⟨0,σ,H2,I2,st2,fun b hb=>(f2 b hb).1,w0⟩;rintro n s3 ⟨i,σ3,H3,I3,st3,fr3,w3⟩;rcases turn i n σ3 H3 w3 with⟨stop,qn⟩ | ⟨go,N,hN,step⟩
 ·refine yH hp (dI (T.done X rfl rfl rfl hc i ae s3 σ3 H3 X.xe I3 (stat fr3) st3 stop) fun r s4 qx=>?_);obtain⟨hr,I4⟩:=qx;subst hr;exact Dh ⟨σ3,H3,I4,qn⟩
 ·refine yH hp (dI (T.item X rfl rfl rfl hc i ae s3 σ3 H3 X.xe I3 (stat fr3) st3 go) fun r s4 qx=>?_);obtain⟨u,hr,h4⟩:=qx;subst hr;refine yH hp (dI h4 fun _ s5 qx=>?_);obtain⟨x,H5,I5,r5,y5,Zm,vf⟩:=qx;have I5':=I5.pinned (stat vf) (T.obj _ _ Zm);refine yH hp (dI (hg _ s5 σ3 H5 x u _ I5' r5 (step x H5 y5)) fun _ s6 qx=>?_);obtain⟨σ6,H6,I6,q6⟩:=qx;refine yH hp (dI (hb _ s6 σ6 H6 _ I6 q6) fun f s7 q7=>?_)
  have again:∀{σ7:St} {H7:Hp},Inv X (ae++Gq fp s5.heap) σ7 H7 s7->N σ7 H7->∃m,m<n/\∃i σ' H',Inv X ae σ' H' s7/\tn i s7.heap/\(∀b∈fp,H' b=none)/\W i m σ' H':=fun {σ7 H7} I7 n7=>by
   obtain⟨m',hm,w7⟩:=hN σ7 H7 n7;refine⟨m',hm,i+1,σ7,H7,I7.jq,T.keep _ _ _ Zm fun b hb o e=>(I7.pin (b,o) (i_ _ (i_ _ (d_ hb e)))).1,fun b hb=>?_,w7⟩;obtain⟨o,e,d⟩:=T.obj _ _ Zm b hb;exact(I7.pin (b,o) (i_ _ (i_ _ (d_ hb e)))).2.1
  cases f with
  | next=>obtain⟨σ7,H7,I7,n7⟩:=q7; exact again I7 n7
  | cont=>obtain⟨σ7,H7,I7,n7⟩:=q7; exact again I7 n7
  | brk=>obtain⟨σ7,H7,I7,q7⟩:=q7; exact⟨σ7,H7,I7.jq,q7⟩
  | ret v=>obtain⟨x7,σ7,H7,I7,r7,q7⟩:=q7; exact⟨x7,σ7,H7,I7.jq,r7,q7⟩
end
theorem X3{K:Frag}{a:Addr}{xs:List V}{g:TG}{tb:TS}{D:Ends}{σ:St}{H:Hp}(Pv:Nat->St->Hp->Prop)(h0:Pv 0 σ H)(hl:∀i σ H,i<=xs.length->Pv i σ H->d7 K H a xs)
  (hs:∀i x σ H,xs[i]?=some x->Pv i σ H->g x σ H fun σ2 H2=>tb { D with nx:=Pv (i+1),ct:=Pv (i+1),bk:=D.nx } σ2 H2) (hd:∀σ H,Pv xs.length σ H->D.nx σ H) :
  ∃W:Nat->Nat->St->Hp->Prop,(∃m,W 0 m σ H)/\∀i m σ H,W i m σ H ->
   ((Itl K a).stop i H/\D.nx σ H)\/((Itl K a).go i H/\∃N:St->Hp->Prop,(∀σ' H',N σ' H'->∃m',m'<m/\W (i+1) m' σ' H')/\∀x H',(Itl K a).xj i H x H'->g x σ H' fun σ2 H2=>tb { D with nx:=N,ct:=N,bk:=D.nx } σ2 H2):=by
 refine⟨fun i m σ H=>m=xs.length-i/\i<=xs.length/\Pv i σ H,⟨xs.length,by simp,fG _,h0⟩,?_⟩
 rintro i m σ H ⟨rfl,hi,p⟩;have q:=hl i σ H hi p;by_cases hlt:i<xs.length
 ·refine .inr ⟨⟨xs,xs[i],q,by simp[hlt]⟩,Pv (i+1),fun σ' H' p'=>⟨xs.length-(i+1),∅,rfl,hlt,p'⟩,fun x H' y=>?_⟩
  obtain⟨e,y⟩:=y;subst e;exact hs i x σ _ (y xs q) p
 ·have e:i=xs.length:=by omega
  subst e;exact .inl ⟨⟨xs,q,dM _⟩,hd σ H p⟩
theorem aau{K:Frag}{a:Addr}{xs:List V}{g:TG}{tb:TS}{D:Ends}{σ:St}{H:Hp}(Pv:Nat->St->Hp->Prop)(h0:Pv 0 σ H)(hl:∀i σ H,i<=xs.length->Pv i σ H->cB K H a xs)
  (hs:∀i x σ H,xs[i]?=some x->Pv i σ H->g x σ H fun σ2 H2=>tb { D with nx:=Pv (i+1),ct:=Pv (i+1),bk:=D.nx } σ2 H2) (hd:∀σ H,Pv xs.length σ H->D.nx σ H) :
  ∃W:Nat->Nat->St->Hp->Prop,(∃m,W 0 m σ H)/\∀i m σ H,W i m σ H ->
   ((Itt K a).stop i H/\D.nx σ H)\/((Itt K a).go i H/\∃N:St->Hp->Prop,(∀σ' H',N σ' H'->∃m',m'<m/\W (i+1) m' σ' H')/\∀x H',(Itt K a).xj i H x H'->g x σ H' fun σ2 H2=>tb { D with nx:=N,ct:=N,bk:=D.nx } σ2 H2):=by
 refine⟨fun i m σ H=>m=xs.length-i/\i<=xs.length/\Pv i σ H,⟨xs.length,by simp,fG _,h0⟩,?_⟩
 rintro i m σ H ⟨rfl,hi,p⟩;have q:=hl i σ H hi p;by_cases hlt:i<xs.length
 ·refine .inr ⟨⟨xs,xs[i],q,by simp[hlt]⟩,Pv (i+1),fun σ' H' p'=>⟨xs.length-(i+1),∅,rfl,hlt,p'⟩,fun x H' y=>?_⟩
  obtain⟨e,y⟩:=y;subst e;exact hs i x σ _ (y xs q) p
 ·have e:i=xs.length:=by omega
  subst e;exact .inl ⟨⟨xs,q,dM _⟩,hd σ H p⟩
theorem vg{lo:Int}{n:Nat}{g:TG}{tb:TS}{D:Ends}{σ:St}{H:Hp}(Pv:Nat->St->Hp->Prop)(h0:Pv 0 σ H)
  (hs:∀i σ H,i<n->Pv i σ H->g (.int (lo+i)) σ H fun σ2 H2=>tb { D with nx:=Pv (i+1),ct:=Pv (i+1),bk:=D.nx } σ2 H2) (hd:∀σ H,Pv n σ H->D.nx σ H) :
  ∃W:Nat->Nat->St->Hp->Prop,(∃m,W 0 m σ H)/\∀i m σ H,W i m σ H ->
   ((Ln lo n).stop i H/\D.nx σ H)\/((Ln lo n).go i H/\∃N:St->Hp->Prop,(∀σ' H',N σ' H'->∃m',m'<m/\W (i+1) m' σ' H')/\∀x H',(Ln lo n).xj i H x H'->g x σ H' fun σ2 H2=>tb { D with nx:=N,ct:=N,bk:=D.nx } σ2 H2):=by
 refine⟨fun i m σ H=>m=n-i/\i<=n/\Pv i σ H,⟨n,by simp,fG _,h0⟩,?_⟩
 rintro i m σ H ⟨rfl,hi,p⟩;by_cases hlt:i<n
 ·refine .inr ⟨hlt,Pv (i+1),fun σ' H' p'=>⟨n-(i+1),∅,rfl,hlt,p'⟩,fun x H' y=>?_⟩
  obtain⟨e,y⟩:=y;subst e y;exact hs i σ _ hlt p
 ·have e:i=n:=by omega
  subst e;exact .inl ⟨dM _,hd σ H p⟩
abbrev R2:=V->V->Hp->VK->Prop
structure rR(X:Cx)(f:Value->Value->Sem Value)(r:R2):Prop where
 mk ::
 go :
 ∀(ae:List (Addr×Obj))(s:Shared)(σ:St)(H:Hp)(x y:V)(v u:Value)(Q:VK),Inv X ae σ H s->RelV x v->RelV y u->r x y H Q ->
  wpAny (model X.prog X.w) X.A (f v u) (EP X ae σ Q) X.xe s
instance {X:Cx} {f:Value->Value->Sem Value} {r:R2}:CoeFun (rR X f r) (fun _=>
 ∀(ae:List (Addr×Obj))(s:Shared)(σ:St)(H:Hp)(x y:V)(v u:Value)(Q:VK),Inv X ae σ H s->RelV x v->RelV y u->r x y H Q ->
  wpAny (model X.prog X.w) X.A (f v u) (EP X ae σ Q) X.xe s):=⟨rR.go⟩
structure UnR(X:Cx)(f:Value->Sem Value)(r:V->Hp->VK->Prop):Prop where
 mk ::
 go :
 ∀(ae:List (Addr×Obj))(s:Shared)(σ:St)(H:Hp)(x:V)(v:Value)(Q:VK),Inv X ae σ H s->RelV x v->r x H Q ->
  wpAny (model X.prog X.w) X.A (f v) (EP X ae σ Q) X.xe s
instance {X:Cx} {f:Value->Sem Value} {r:V->Hp->VK->Prop}:CoeFun (UnR X f r) (fun _=>
 ∀(ae:List (Addr×Obj))(s:Shared)(σ:St)(H:Hp)(x:V)(v:Value)(Q:VK),Inv X ae σ H s->RelV x v->r x H Q ->
  wpAny (model X.prog X.w) X.A (f v) (EP X ae σ Q) X.xe s):=⟨UnR.go⟩
structure cZ(X:Cx)(f:Value)(r:List V->Hp->VK->Prop):Prop where
 mk ::
 go :
 ∀(ae:List (Addr×Obj))(s:Shared)(σ:St)(H:Hp)(xs:List V)(us:List Value)(Q:VK),Inv X ae σ H s->Vals xs us->r xs H Q ->
  wpAny (model X.prog X.w) X.A (call f us) (EP X ae σ Q) X.xe s
instance {X:Cx} {f:Value} {r:List V->Hp->VK->Prop}:CoeFun (cZ X f r) (fun _=>
 ∀(ae:List (Addr×Obj))(s:Shared)(σ:St)(H:Hp)(xs:List V)(us:List Value)(Q:VK),Inv X ae σ H s->Vals xs us->r xs H Q ->
  wpAny (model X.prog X.w) X.A (call f us) (EP X ae σ Q) X.xe s):=⟨cZ.go⟩
def YJ(r:R2)(ta tb:TE):TE:=fun σ H Q=>ta σ H fun x H1=>tb σ H1 fun y H2=>r x y H2 Q
def tUn(r:V->Hp->VK->Prop)(ta:TE):TE:=fun σ H Q=>ta σ H fun x H1=>r x H1 Q
def rI(C:Int->Int->Prop)(g:Int->Int->V):R2:=fun x y H Q=>∃i j,x=.int i/\y=.int j/\C i j/\Q (g i j) H
def rI0(g:Int->Int->V):R2:=fun x y H Q=>∃i j,x=.int i/\y=.int j/\Q (g i j) H
def rU(g:Int->V):V->Hp->VK->Prop:=fun x H Q=>∃i,x=.int i/\Q (g i) H
section
variable{X:Cx}{a b c:Expr}{ta tb tc:TE}{pos:Pos}
theorem ac5(ha:PE X a ta)(hb:PE X b tb){ae:List (Addr×Obj)}{s:Shared}{σ:St}{H:Hp}{R:V->V->Hp->Prop}(I:Inv X ae σ H s)
  (h:ta σ H fun x H1=>tb σ H1 fun y H2=>R x y H2) {Q:Value->Shared->Prop} {f:Value->Value->Sem Value}
  (hf:∀v u s2 x y H2,Inv X ae σ H2 s2->RelV x v->RelV y u->R x y H2->wpAny (model X.prog X.w) X.A (f v u) Q X.xe s2) :
  wpAny (model X.prog X.w) X.A (eval a X.env) (fun v s₁=>wpAny (model X.prog X.w) X.A (eval b X.env) (fun u s₂=>wpAny (model X.prog X.w) X.A (f v u) Q X.xe s₂) X.xe s₁) X.xe s:=by
 refine dI (ha ae s σ H _ I h) fun v s1 qx=>?_;obtain⟨x,H1,I1,r1,q1⟩:=qx;refine dI (hb ae s1 σ H1 _ I1 q1) fun u s2 qx=>?_;obtain⟨y,H2,I2,r2,q2⟩:=qx;exact hf v u s2 x y H2 I2 r1 r2 q2
theorem aO{op:Operator}{r:R2}(ho:rR X (binaryOp op) r)(ha:PE X a ta)(hb:PE X b tb):PE X (.BinOp a op b pos) (YJ r ta tb):=by
 symm;intro Q I h;exact wpAny_BinOp (ac5 ha hb I h fun v u s2 x y H2 I2 rx ry q=>ho ae s2 σ H2 x y v u Q I2 rx ry q)
theorem Ds{op:UnaryOp}{r:V->Hp->VK->Prop}(ho:UnR X (unaryOp op) r)(ha:PE X a ta):PE X (.UnaryOp op a pos) (tUn r ta):=by
 symm;intro Q I h;exact UnaryOp_ (dI (ha ae s σ H _ I h) fun v s1 ⟨x,H1,I1,r1,q1⟩=>ho ae s1 σ H1 x v Q I1 r1 q1)
theorem opI{f:Value->Value->Sem Value}{C:Int->Int->Prop}{g:Int->Int->Int}
  (rule:∀(i j:Int)(t u:Tok)(s:Shared)(Q:Value->Shared->Prop)(E:Value->Shared->Prop),C i j->Q (.int (g i j) s.toks) { s with toks:=s.toks+1 }->wpAny (model X.prog X.w) X.A (f (.int i t) (.int j u)) Q E s) :
  rR X f (rI C fun i j=>.int (g i j)):=by
 symm;intro x y v u Q I rx ry h;obtain⟨i,j,rfl,rfl,hc,q⟩:=h;obtain⟨t,rfl⟩:=rx;obtain⟨t',rfl⟩:=ry;exact rule i j t t' s _ _ hc ⟨.int (g i j),H,I.tok _,⟨_,rfl⟩,q⟩
theorem aeK{f:Value->Value->Sem Value}{g:Int->Int->Int}
  (rule:∀(i j:Int)(t u:Tok)(s:Shared)(Q:Value->Shared->Prop)(E:Value->Shared->Prop),Q (.int (g i j) s.toks) { s with toks:=s.toks+1 }->wpAny (model X.prog X.w) X.A (f (.int i t) (.int j u)) Q E s) :
  rR X f (rI0 fun i j=>.int (g i j)):=by
 symm;intro x y v u Q I rx ry h;obtain⟨i,j,rfl,rfl,q⟩:=h;obtain⟨t,rfl⟩:=rx;obtain⟨t',rfl⟩:=ry;exact rule i j t t' s _ _ ⟨.int (g i j),H,I.tok _,⟨_,rfl⟩,q⟩
theorem acp{f:Value->Value->Sem Value}{g:Int->Int->Bool}
  (rule:∀(i j:Int)(t u:Tok)(s:Shared)(Q:Value->Shared->Prop)(E:Value->Shared->Prop),Q (.bool (g i j)) s->wpAny (model X.prog X.w) X.A (f (.int i t) (.int j u)) Q E s) :
  rR X f (rI0 fun i j=>.bl (g i j)):=by
 symm;intro x y v u Q I rx ry h;obtain⟨i,j,rfl,rfl,q⟩:=h;obtain⟨t,rfl⟩:=rx;obtain⟨t',rfl⟩:=ry;exact rule i j t t' s _ _ ⟨.bl (g i j),H,I,rfl,q⟩
def aiK(i j:Int):Prop:=0<j/\j<1073741824
def aiJ(i j:Int):Prop:=0<=j/\j<=1000000/\i.natAbs<2 ^ 64
def YH(i j:Int):Prop:=(-(2 ^ 64)<i/\i<2 ^ 64)\/(-(2 ^ 64)<j/\j<2 ^ 64)
theorem YH.ok{i j:Int}(h:YH i j):IntMulOk i j:=by
 rcases h with⟨h1,h2⟩ | ⟨h1,h2⟩
 ·exact .of_left (intBits_le_64 h1 h2)
 ·exact .of_right (intBits_le_64 h1 h2)
theorem bK:rR X (binaryOp .Add) (rI0 fun i j=>.int (i+j)):=aeK fun _ _ _ _ _ _ _ q=>add_int q
theorem dX:rR X (binaryOp .Sub) (rI0 fun i j=>.int (i-j)):=aeK fun _ _ _ _ _ _ _ q=>sub_int q
theorem gK:rR X (binaryOp .Mult) (rI YH fun i j=>.int (i*j)):=opI fun _ _ _ _ _ _ _ hc q=>mul_int q hc.ok
theorem ZZ:rR X (binaryOp .FloorDiv) (rI aiK fun i j=>.int (i / j)):=opI fun i j _ _ _ _ _ hc q=>by
 have h1:(0:Int)<j:=hc.1;have h2:j<1073741824:=hc.2;exact floordiv_int ∅ (by rw[Int.fdiv_eq_ediv_of_nonneg i ∅]; exact q) (.inl (PyProof.noPylong_small ∅))
theorem lG:rR X (binaryOp .Mod) (rI (fun _ j=>0<j) fun i j=>.int (i % j)):=opI fun i j _ _ _ _ _ hc q=>by
 have h1:(0:Int)<j:=hc;exact mod_int' ∅ (by rw[Int.fmod_eq_emod_of_nonneg i ∅]; exact q)
theorem q_:rR X (binaryOp .Pow) (rI aiJ fun i j=>.int (i ^ j.toNat)):=opI fun _ _ _ _ _ _ _ hc q=>pow_int_small hc.1 hc.2.1 hc.2.2 q
theorem unI{f:Value->Sem Value}{g:Int->Int}
  (rule:∀(i:Int)(t:Tok)(s:Shared)(Q:Value->Shared->Prop)(E:Value->Shared->Prop),Q (.int (g i) s.toks) { s with toks:=s.toks+1 }->wpAny (model X.prog X.w) X.A (f (.int i t)) Q E s) :
  UnR X f (rU fun i=>.int (g i)):=by
 symm;intro x v Q I rx h;obtain⟨i,rfl,q⟩:=h;obtain⟨t,rfl⟩:=rx;exact rule i t s _ _ ⟨.int (g i),H,I.tok _,⟨_,rfl⟩,q⟩
theorem uy:UnR X (unaryOp .USub) (rU fun i=>.int (-i)):=unI fun _ _ _ _ _ q=>neg_int q
end
def R0:V->V->Bool
 | .non,.non=>true | .non,.int _=>true | .int _,.non=>true | .non,.bl _=>true | .bl _,.non=>true | .non,.str _=>true | .str _,.non=>true
 | .int _,.int _=>true | .bl _,.bl _=>true | .str _,.str _=>true | .U6 _,.U6 _=>true
 | .int _,.str _=>true | .str _,.int _=>true | .bl _,.str _=>true | .str _,.bl _=>true
 | _,_=>false
def rEq:R2:=fun x y H Q=>R0 x y=true/\Q (.bl (decide (x=y))) H
def rNe:R2:=fun x y H Q=>R0 x y=true/\Q (.bl (!decide (x=y))) H
theorem Rf{i j:Int}:decide (V.int i=V.int j)=(i==j):=by
 rw[De];simp
theorem Yd{i j:Bool}:decide (V.bl i=V.bl j)=(i==j):=by
 rw[De];simp
theorem Rc{i j:Str}:decide (V.str i=V.str j)=(i==j):=by
 rw[De];simp
theorem Rg{i j:Array UInt8}:decide (V.U6 i=V.U6 j)=(i.toList==j.toList):=by
 rw[De];cases i;cases j;simp
section
variable{X:Cx}{a b c:Expr}{ta tb tc:TE}{pos:Pos}
theorem cu{ae:List (Addr×Obj)}{σ:St}{H:Hp}{s:Shared}{Q:VK}{k k':Bool}(I:Inv X ae σ H s)(q:Q (.bl k) H)(e:k=k'):EP X ae σ Q (.bool k') s:=by
 subst e;exact⟨.bl k,H,I,rfl,q⟩
theorem gY:rR X (compareOp .Eq) rEq:=by
 symm;intro x y v u Q I rx ry h;obtain⟨hs,q⟩:=h;cases x with
 | non=>
  cases rx;cases y with
  | non=>cases ry; exact PySem.EqNone.eq_none_none (cu I q (by simp))
  | bl j=>cases ry; exact PySem.EqNone.eq_none_bool (cu I q (by simp))
  | int j=>obtain⟨t',rfl⟩:=ry; exact PySem.EqNone.eq_none_int (cu I q (by simp))
  | str j=>obtain⟨t',rfl⟩:=ry; exact PySem.EqNone.eq_none_str (cu I q (by simp))
  | _=>exact absurd (show false=true from hs) mj
 | bl i=>
  cases rx;cases y with
  | non=>cases ry; exact PySem.EqNone.eq_bool_none (cu I q (by simp))
  | bl j=>cases ry; exact eq_bool (cu I q Yd)
  | str j=>obtain⟨t',rfl⟩:=ry; exact PySem.EqMixed.eq_bool_str (cu I q (by simp))
  | _=>exact absurd (show false=true from hs) mj
 | int i=>
  obtain⟨t,rfl⟩:=rx;cases y with
  | non=>cases ry; exact PySem.EqNone.eq_int_none (cu I q (by simp))
  | int j=>obtain⟨t',rfl⟩:=ry; exact eq_int (cu I q Rf)
  | str j=>obtain⟨t',rfl⟩:=ry; exact PySem.EqMixed.eq_int_str (cu I q (by simp))
  | _=>exact absurd (show false=true from hs) mj
 | str i=>
  obtain⟨t,rfl⟩:=rx;cases y with
  | non=>cases ry; exact PySem.EqNone.eq_str_none (cu I q (by simp))
  | bl j=>cases ry; exact PySem.EqMixed.eq_str_bool (cu I q (by simp))
  | int j=>obtain⟨t',rfl⟩:=ry; exact PySem.EqMixed.eq_str_int (cu I q (by simp))
  | str j=>obtain⟨t',rfl⟩:=ry; exact eq_str (cu I q Rc)
  | _=>exact absurd (show false=true from hs) mj
 | U6 i=>
  obtain⟨t,rfl⟩:=rx;cases y with
  | U6 j=>obtain⟨t',rfl⟩:=ry; exact PySem.W.eq_bytes (cu I q Rg)
  | _=>exact absurd (show false=true from hs) mj
 | _=>cases y <;> exact absurd (show false=true from hs) mj
theorem WQ:rR X (compareOp .NotEq) rNe:=by
 symm;intro x y v u Q I rx ry h;obtain⟨hs,q⟩:=h;cases x with
 | non=>
  cases rx;cases y with
  | non=>cases ry; exact PySem.EqNone.ne_none_none (cu I q (by simp))
  | bl j=>cases ry; exact PySem.EqNone.ne_none_bool (cu I q (by simp))
  | int j=>obtain⟨t',rfl⟩:=ry; exact PySem.EqNone.ne_none_int (cu I q (by simp))
  | str j=>obtain⟨t',rfl⟩:=ry; exact PySem.EqNone.ne_none_str (cu I q (by simp))
  | _=>exact absurd (show false=true from hs) mj
 | bl i=>
  cases rx;cases y with
  | non=>cases ry; exact PySem.EqNone.ne_bool_none (cu I q (by simp))
  | bl j=>cases ry; exact ne_bool (cu I q (jF not Yd))
  | str j=>obtain⟨t',rfl⟩:=ry; exact PySem.EqMixed.ne_bool_str (cu I q (by simp))
  | _=>exact absurd (show false=true from hs) mj
 | int i=>
  obtain⟨t,rfl⟩:=rx;cases y with
  | non=>cases ry; exact PySem.EqNone.ne_int_none (cu I q (by simp))
  | int j=>obtain⟨t',rfl⟩:=ry; exact ne_int (cu I q (jF not Rf))
  | str j=>obtain⟨t',rfl⟩:=ry; exact PySem.EqMixed.ne_int_str (cu I q (by simp))
  | _=>exact absurd (show false=true from hs) mj
 | str i=>
  obtain⟨t,rfl⟩:=rx;cases y with
  | non=>cases ry; exact PySem.EqNone.ne_str_none (cu I q (by simp))
  | bl j=>cases ry; exact PySem.EqMixed.ne_str_bool (cu I q (by simp))
  | int j=>obtain⟨t',rfl⟩:=ry; exact PySem.EqMixed.ne_str_int (cu I q (by simp))
  | str j=>obtain⟨t',rfl⟩:=ry; exact ne_str (cu I q (jF not Rc))
  | _=>exact absurd (show false=true from hs) mj
 | U6 i=>
  obtain⟨t,rfl⟩:=rx;cases y with
  | U6 j=>obtain⟨t',rfl⟩:=ry; exact PySem.W.ne_bytes (cu I q (jF not Rg))
  | _=>exact absurd (show false=true from hs) mj
 | _=>cases y <;> exact absurd (show false=true from hs) mj
theorem tK:rR X (compareOp .Lt) (rI0 fun i j=>.bl (decide (i<j))):=acp fun _ _ _ _ _ _ _ q=>lt_int q
theorem jy:rR X (compareOp .Gt) (rI0 fun i j=>.bl (decide (j<i))):=acp fun _ _ _ _ _ _ _ q=>gt_int q
theorem QD:rR X (compareOp .GtE) (rI0 fun i j=>.bl (decide (j<=i))):=acp fun _ _ _ _ _ _ _ q=>ge_int q
theorem MF:rR X (compareOp .Is) (fun x y H Q=>y=.non/\Q (.bl (decide (x=.non))) H):=by
 symm;intro x y v u Q I rx ry h;obtain⟨rfl,q⟩:=h;cases ry;refine is_none_gen (cu I q ?_);cases x <;> first
  | (cases rx; rfl)
  | (obtain⟨t,rfl⟩:=rx; rfl)
theorem qd:rR X (compareOp .IsNot) (fun x y H Q=>y=.non/\Q (.bl (!decide (x=.non))) H):=by
 symm;intro x y v u Q I rx ry h;obtain⟨rfl,q⟩:=h;cases ry;refine isnot_none_gen (cu I q ?_);cases x <;> first
  | (cases rx; rfl)
  | (obtain⟨t,rfl⟩:=rx; rfl)
theorem bh(b:Expr){op:CmpOp}(h:op≠.In:=by decide)(h2:op≠.NotIn:=by decide):behindInMarks op b=false:=by
 have e1:(op==CmpOp.In)=false:=by cases op <;> first | rfl | exact absurd rfl h
 have e2:(op==CmpOp.NotIn)=false:=by cases op <;> first | rfl | exact absurd rfl h2
 cases b <;> simp[behindInMarks,e1,e2]
theorem eY{op:CmpOp}{r:R2}(ho:rR X (compareOp op) r)(ha:PE X a ta)(hb:PE X b tb)(hm:behindInMarks op b=false):PE X (.Compare a [op] [b] pos) (YJ r ta tb):=by
 symm;intro Q I h;exact wpAny_Compare1 (ac5 ha hb I h fun v u s2 x y H2 I2 rx ry q=>ho ae s2 σ H2 x y v u Q I2 rx ry q) hm
def O_(t:TE):TT:=fun σ H Q=>t σ H fun x H'=>∃k,x=.bl k/\Q k H'
theorem bj{op:CmpOp}{r:R2}(ho:rR X (compareOp op) r)(ha:PE X a ta)(hb:PE X b tb)(hm:behindInMarks op b=false):PT X (.Compare a [op] [b] pos) (O_ (YJ r ta tb)):=by
 symm;intro Q I h
 refine wpAny_isTrue_Compare1 (dI (ha ae s σ H _ I h) fun v s1 ⟨x,H1,I1,r1,q1⟩=>dI (hb ae s1 σ H1 _ I1 q1) fun u s2 ⟨y,H2,I2,r2,q2⟩=>
  dI (ho ae s2 σ H2 x y v u _ I2 r1 r2 q2) fun c s3 ⟨z,H3,I3,r3,k,e,q3⟩=>?_) hm
 subst e;cases r3;exact Gj ⟨H3,I3,q3⟩
def abU(r r':R2)(ta tb tc:TE):TE:=fun σ H Q=>ta σ H fun x H1=>tb σ H1 fun y H2=>r x y H2 fun z H3=>∃k,z=.bl k /\
 (if k=true then tc σ H3 fun w' H4=>r' y w' H4 Q else Q (.bl false) H3)
def aix(K:Frag)(x:V)(H:Hp)(k:Bool):Prop:=
 match x with
 | .non=>k=false
 | .bl b=>k=b
 | .int i=>k=(i != 0)
 | .str y=>y.length<=sizeLine/\k=((y.length:Int) != 0)
 | .U6 y=>y.size<=sizeLine/\k=((y.size:Int) != 0)
 | .ref p=>(∃xs,d7 K H p xs/\k = !xs.isEmpty)\/(∃xs,cB K H p xs/\k = !xs.isEmpty)\/∃kvs,H p=some (.dK kvs)/\k = !kvs.isEmpty
 | _=>False
theorem zg:(sizeLine:Nat)<2 ^ 63:=by rw[sizeLine_eq]; decide
theorem vals1{x:V}{us:List Value}(r:Vals [x] us):∃u,us=[u]/\RelV x u:=by
 cases r with
 | cons r1 r2=>cases r2; exact⟨_,rfl,r1⟩
theorem vals2{x y:V}{us:List Value}(r:Vals [x,y] us):∃u w',us=[u,w']/\RelV x u/\RelV y w':=by
 cases r with
 | cons r1 r2=>
  cases r2 with
  | cons r3 r4=>cases r4; exact⟨_,_,rfl,r1,r3⟩
theorem KZ:cZ X (.builtin "abs") (fun xs H Q=>∃i,xs=[.int i]/\Q (.int (if i<0 then -i else i)) H):=by
 symm;intro xs us Q I r h;obtain⟨i,rfl,q⟩:=h;obtain⟨u,rfl,t,rfl⟩:=vals1 r;exact call_abs_int fun u tk=>⟨.int (if i<0 then -i else i),H,I.tok _,⟨_,rfl⟩,q⟩
theorem gG(hc:X.calm=true):cZ X (.builtin "max") (fun xs H Q=>∃i j,xs=[.int i,.int j]/\Q (.int (if j>i then j else i)) H):=by
 symm;intro xs us Q I r h;obtain⟨i,j,rfl,q⟩:=h;obtain⟨u,w',rfl,⟨t,rfl⟩,⟨t',rfl⟩⟩:=vals2 r;refine max_two_ints (I.ok.hd hc) fun h' tk k=>⟨_,H,I.kept k,?_,q⟩;by_cases hj:j>i
 ·rw[aL hj,aL hj]; exact⟨_,rfl⟩
 ·rw[bD hj,bD hj]; exact⟨_,rfl⟩
theorem dN(hc:X.calm=true):cZ X (.builtin "min") (fun xs H Q=>∃i j,xs=[.int i,.int j]/\Q (.int (if j<i then j else i)) H):=by
 symm;intro xs us Q I r h;obtain⟨i,j,rfl,q⟩:=h;obtain⟨u,w',rfl,⟨t,rfl⟩,⟨t',rfl⟩⟩:=vals2 r;refine min_two_ints (I.ok.hd hc) fun h' tk k=>⟨_,H,I.kept k,?_,q⟩;by_cases hj:j<i
 ·rw[aL hj,aL hj]; exact⟨_,rfl⟩
 ·rw[bD hj,bD hj]; exact⟨_,rfl⟩
end
structure ac_(h:Heap)(x dx C:Addr)(mA:Str->Option Value):Prop where
 obj:h.get? x=some (instObj C dx)
 ns:h.Ns1 dx mA
 ne:dx≠x
theorem Tn{h:Heap}{dx:Addr}{mA:Str->Option Value}(n:h.Ns1 dx mA):∃od,h.get? dx=some od/\∀name,lookIn name od=some (mA name):=by
 obtain⟨o,es,ep,ho,hd,hk,_,hm⟩:=n;refine⟨o,ho,fun name=>?_⟩;have e:=hm name;unfold nsFind findBy at e;rw[<- Array.find?_toList] at e;unfold lookIn;rw[hd];dsimp only;split
 ·rename_i y q;rw[q] at e;exact jF some e
 ·rename_i q;rw[q] at e
  have a:es.toList.any (·.refKey)=false:=by
   rw[List.any_eq_false];intro y hy;obtain⟨z,t,hkey⟩:=hk y (Array.mem_toList_iff.mp hy);simp[DictEntry.refKey,hkey]
  have a':¬es.toList.any (·.refKey)=true:=by rw[a]; exact mj
  rw[bD a'];exact jF some e
theorem ac_.look{h:Heap}{x dx C:Addr}{mA:Str->Option Value}(I:ac_ h x dx C mA):∃od,PySem.W.InstAt h x (instObj C dx) C (some od)/\∀name,lookIn name od=some (mA name):=
 let ⟨od,ho,hl⟩:=Tn I.ns
 ⟨od,⟨I.obj,rfl,rfl,ho⟩,hl⟩
section
variable{prog:Program}{w:World}{A:Around}{E:Value->Shared->Prop}{s:Shared}{K:Frag}{x dx C f:Addr}{mA:Str->Option Value}{name:Str}{v:Value}
end
section
variable{P:Program}{w:World}{H H':Hp}{h h':Heap}{a C dx:Addr}{fs fs':List (Str×V)}
theorem Q5(hok:mL P w H h)(e:H a=some (.ins C dx fs)):∃mA,ac_ h a dx C mA/\(∀f,Uy (fs.lookup f) (mA f))/\PySem.Within mA (fs.map (·.1))/\fs.length<=1000/\H dx=some (.own a):=by
 obtain⟨d,z,ne,ob,mA,n,r,q⟩:=(show cH P w H h a (.ins C dx fs) from hok a _ e);exact⟨mA,⟨ob,n,ne⟩,r,q,z,d⟩
end
structure Cls(K:Frag)(C:Addr):Prop where
 pg:plainGet K C Str.empty=true
 hd:hasDictIn K C=true
 po:PySem.W.plainOver K C=true
 sa:findIn K (.ref C) "__setattr__" = some (some (.builtin "object.__setattr__"))
theorem Cls.get{K:Frag}{C:Addr}(c:Cls K C)(f:Str):plainGet K C f=true:=c.pg
structure Con(K:Frag)(C:Addr)(f:Str)(v:V)(u:Value):Prop where
 at_:findIn K (.ref C) f=some (some u)
 rel:RelV v u
 get:specialIn K u "__get__" = some none
 cp:PySem.W.copiedNames.contains f=false
structure Meth(K:Frag)(C:Addr)(m:Str)(f:Addr):Prop where
 at_:findIn K (.ref C) m=some (some (.ref f))
 fn:isFn K (.ref f)=true
 kp:keepIn K (.ref f)=true
section
variable{X:Cx}{ae:List (Addr×Obj)}{σ:St}{H:Hp}{s:Shared}{a C dx:Addr}{fs:List (Str×V)}{f:Str}{v:V}{A:Around}{E:Value->Shared->Prop}
end
section
variable{X:Cx}{o e value:Expr}{f:Str}{pos pos' tpos:Pos}{ta tv:TE}
end
section
variable{X:Cx}{ae:List (Addr×Obj)}{σ:St}{H:Hp}{s:Shared}{A:Around}{E:Value->Shared->Prop}{Q:Value->Shared->Prop}{c:Value}{b:Bool}
inductive qy(K:Frag)(H:Hp):V->Value->Prop where
 | non:qy K H .non (.type "NoneType")
 | bl (x:Bool):qy K H (.bl x) (.type "bool")
 | int (i:Int):qy K H (.int i) (.type "int")
 | str (x:Str):qy K H (.str x) (.type "str")
 | flt (x:UInt64):qy K H (.flt x) (.type "float")
 | lst {a:Addr} {xs:List V} (e:H a=some (.lst xs)):qy K H (.ref a) (.type "list")
 | Ig {a:Addr} {o:Obj} {xs:List V} (e:H a=some (.Ig o (.lst xs))):qy K H (.ref a) (.type "list")
 | tup {a:Addr} {xs:List V} (e:H a=some (.tup xs)):qy K H (.ref a) (.type "tuple")
 | dK {a:Addr} {kvs:List (Key×V)} (e:H a=some (.dK kvs)):qy K H (.ref a) (.type "dict")
 | dT {a:Addr} {kvs:List (List Key×V)} (e:H a=some (.dT kvs)):qy K H (.ref a) (.type "dict")
 | ins {a C dx:Addr} {fs:List (Str×V)} (e:H a=some (.ins C dx fs)) (cl:Cls K C) (ha:findIn K (.ref C) "__class__" = some (some (.builtin "object.__class__")))
   (hn:specialIn K (.builtin "object.__class__") "__get__" = some (some (.builtin "getset_descriptor.__get__"))) (htk:takesIn K (.builtin "object.__class__")=some true)
   (hm:mroIn K C (.type "object")=some true):qy K H (.ref a) (.ref C)
theorem Dy{x:V}{u t:Value}(I:Inv X ae σ H s)(rx:RelV x u)(ty:qy X.K H x t)(e:kitOne X.K t c=some b)(h:∀tk,Q (.bool b) { s with toks:=tk }) :
  wpAny (model X.prog X.w) A (call (.builtin "isinstance") [u,c]) Q E s:=by
 cases ty with
 | non=>cases(show u=Value.none from rx); exact kia_one kitx_none I.qg True.intro e (fun z=>nomatch z) h
 | bl y=>cases(show u=Value.bool y from rx); exact kia_one kitx_bool I.qg True.intro e (fun z=>nomatch z) h
 | int i=>obtain⟨t,q⟩:=(show ∃t,u=Value.int i t from rx); cases q; exact kia_one kitx_int I.qg True.intro e (fun z=>nomatch z) h
 | str y=>obtain⟨t,q⟩:=(show ∃t,u=Value.str y t from rx); cases q; exact kia_one kitx_str I.qg True.intro e (fun z=>nomatch z) h
 | flt y=>obtain⟨t,q⟩:=(show ∃t,u=Value.float y t from rx); cases q; exact kia_one kitx_float I.qg True.intro e (fun z=>nomatch z) h
 | @lst a xs ea=>
  cases(show u=Value.ref a from rx);obtain⟨_,_,n,_,h1⟩:=(show cH X.prog X.w H s.heap a (.lst xs) from I.hok a _ ea);exact kia_one kitx_list I.qg ⟨_,h1,rfl⟩ e (fun z=>nomatch z) h
 | @Ig a ob xs ea=>
  cases(show u=Value.ref a from rx);obtain⟨_,_,_,n,_,h1⟩:=(show cH X.prog X.w H s.heap a (.Ig ob (.lst xs)) from I.hok a _ ea);exact kia_one kitx_list I.qg ⟨_,h1,rfl⟩ e (fun z=>nomatch z) h
 | @tup a xs ea=>
  cases(show u=Value.ref a from rx);obtain⟨_,_,_,p⟩:=(show cH X.prog X.w H s.heap a (.tup xs) from I.hok a _ ea);obtain⟨o,h1,h2,_⟩:=p;exact kia_one kitx_tuple I.qg ⟨o,h1,h2⟩ e (fun z=>nomatch z) h
 | @dK a kvs ea=>
  cases(show u=Value.ref a from rx);obtain⟨_,_,vs,_,p⟩:=(show cH X.prog X.w H s.heap a (.dK kvs) from I.hok a _ ea);obtain⟨o,es,ep,h1,h2,_⟩:=p;exact kia_one kitx_dict I.qg ⟨o,h1,h2.1⟩ e (fun z=>nomatch z) h
 | @dT a kvs ea=>
  cases(show u=Value.ref a from rx);obtain⟨_,_,xs,_,o,es,ep,h1,h2,_⟩:=(show cH X.prog X.w H s.heap a (.dT kvs) from I.hok a _ ea);exact kia_one kitx_dict I.qg ⟨o,h1,h2.1⟩ e (fun z=>nomatch z) h
 | @ins a C dx fs ea cl ha hn htk hm=>
  cases(show u=Value.ref a from rx);obtain⟨mA,O,_⟩:=Q5 I.hok ea;obtain⟨od,J,_⟩:=O.look;exact kia_one (kitx_own (cl.get _) cl.hd ha hn htk hm) I.qg J e (fun z=>nomatch z) h
end
structure jm(k:Nat)(A:Around):Prop where
 hd:A.handled=none
 dp:A.depth+3*k+5<recursionLimit
 un:A.units+16*k+200<cLine
 gd:A.guards=some []
theorem jm.mono{j k:Nat}{A:Around}(r:jm k A)(h:j<=k):jm j A:=⟨r.hd,by have:=r.dp; omega,by have:=r.un; omega,r.gd⟩
theorem jm.deeper{k:Nat}{A:Around}(r:jm (k+1) A)(env:Env):jm k (A.deeper env):=
 ⟨r.hd,by have:=r.dp; show A.depth+1+3*k+5<_; omega,by have:=r.un; show A.units+3+16*k+200<_; omega,by first | exact r.gd | (simpa[Around.deeper,Around.under,Code.guards,Code.isGuard,guardIds,pushGuards] using r.gd)⟩
theorem jm.depth{k:Nat}{A:Around}(r:jm k A):A.depth<recursionLimit:=by have:=r.dp; omega
theorem jm.units{k:Nat}{A:Around}(r:jm k A):A.units+64<cLine:=by have:=r.un; omega
def Vx:TA:=fun _ H Q=>Q [] H
def Jb(ta:TE)(tr:TA):TA:=fun σ H Q=>ta σ H fun x H1=>tr σ H1 fun xs H2=>Q (x::xs) H2
section
variable{X:Cx}{e:Expr}{es:List Expr}{te:TE}{t:TA}{pos:Pos}
theorem aj:PA X [] Vx:=.mk <| fun _ _ _ _ H Q I h=>Calls.spliced_nil ⟨[],H,I,.nil,h⟩
theorem ZX(ha:PE X e te)(hr:PA X es t)(hs:starEach (e::es) X.env=(false,eval e X.env)::starEach es X.env:=by rfl):PA X (e::es) (Jb te t):=by
 refine .mk ?_;intro pos ae s σ H Q I h;rw[hs];show wpAny _ _ (spliced ((false,eval e X.env)::backTo pos (starEach es X.env))) _ _ s;refine Calls.spliced_cons (dI (ha ae s σ H _ I h) fun u s1 qx=>?_);obtain⟨x,H1,I1,r1,q1⟩:=qx;exact dI (hr pos ae s1 σ H1 _ I1 q1) fun us s2 ⟨xs,H2,I2,r2,q2⟩=>⟨x::xs,H2,I2,.cons r1 r2,q2⟩
def age(t:TA):TE:=fun σ H Q=>t σ H fun xs H1=>xs.length<=sizeLine/\∀p,H1 p=none->Q (.ref p) (upd H1 p (.tup xs))
def aea(t:TA):TE:=fun σ H Q=>t σ H fun xs H1=>xs.length<=sizeLine/\∀p,H1 p=none->Q (.ref p) (upd H1 p (.lst xs))
theorem acn(h:PA X es t):PE X (.List es pos) (aea t):=by
 symm;intro Q I hq;refine wpAny_List_spliced (dI (h pos ae s σ H _ I hq) fun us s1 ⟨xs,H1,I1,r,z,q⟩=>⟨by rw[<- r.length]; exact z,?_⟩)
 have hf:H1 s1.heap.objs.size=none:=I1.hok.fresh (dM _);refine⟨.ref s1.heap.objs.size,upd H1 s1.heap.objs.size (.lst xs),I1.laid (t':=s1.toks) (fun b u e=>dJ _ e) (dM _) ?_,rfl,q _ hf⟩;exact⟨z,us,0,r,dF _ rfl⟩
end
abbrev Sp:=List V->Hp->VK->XK->Prop
abbrev Rx:=List Env->Hp->Shared->XK->Value->Shared->Prop
structure aaO(P:Program)(w:World)(K:Frag)(mg:Str->Option Value)(base:Heap)(A:Around)(outer:List Env)(s:Shared)(H:Hp):Prop where
 frames:A.frames=some outer
 mod:Mod K mg base
 bs:∀b o,base.get? b=some o->s.heap.get? b=some o/\H b=none
 U7:base.objs.size<=s.heap.objs.size
 wy:s.heap.FunFrames base outer
 frf:∀b∈frs outer,H b=none
 hok:mL P w H s.heap
 bare:AllBare s.gens
def CE(outer:List Env)(P:Program)(w:World)(H:Hp)(s:Shared)(Q:VK)(u:Value)(s':Shared):Prop:=
 ∃v H',s'.os=s.os/\AllBare s'.gens/\Un (frs outer) [] H H' s.heap s'.heap/\mL P w H' s'.heap/\RelV v u/\Q v H'
def CR(CX:Rx)(outer:List Env)(P:Program)(w:World)(H:Hp)(s:Shared)(Q:VK)(E:XK)(r:Result)(s':Shared):Prop:=
 match r with
 | .ok (.ret u)=>CE outer P w H s Q u s'
 | .ok _=>False
 | .error e=>CX outer H s E e s'
structure bZ(P:Program)(w:World)(K:Frag)(mg:Str->Option Value)(base:Heap)(CX:Rx)(k:Nat)(f:Addr)(fd:FuncData)(ps:List Str)(sp:Sp):Prop where
 len:∀vs H Q E,sp vs H Q E->vs.length=ps.length
 run:∀(A:Around)(outer:List Env)(s:Shared)(H:Hp)(args:Args)(us:List Value)(vs:List V)(Q:VK)(E:XK),jm k A->aaO P w K mg base A outer s H->BindsTo s fd args (ps.zip us)->Vals vs us->sp vs H Q E ->
  codeAny (model P w) A (.call (.ref f) args) (CR CX outer P w H s Q E) s
theorem bZ.mono{P:Program}{w:World}{K:Frag}{mg:Str->Option Value}{base:Heap}{CX:Rx}{j k:Nat}{f:Addr}{fd:FuncData}{ps:List Str}{sp:Sp}(F:bZ P w K mg base CX j f fd ps sp)(h:j<=k) :
  bZ P w K mg base CX k f fd ps sp:=⟨F.len,fun A outer s H args us vs Q E hr=>F.run A outer s H args us vs Q E (hr.mono h)⟩
section
variable{X:Cx}{ae:List (Addr×Obj)}{σ:St}{H:Hp}{s s':Shared}
theorem Inv.env0(I:Inv X ae σ H s):aaO X.prog X.w X.K X.mg X.base X.A X.stack s H:=
 ⟨I.ok.frames,I.ok.mod,I.bs,qt I.ok.U7 I.sz,I.stack,I.wK,I.hok,I.bare⟩
theorem Inv.after{Q:VK}{u:Value}(I:Inv X ae σ H s)(h:CE X.stack X.prog X.w H s Q u s'):EP X ae σ Q u s':=by
 obtain⟨v,H',os,bare,un,hok,r,q⟩:=h;obtain⟨hh,g,d,t,os'⟩:=s';obtain rfl:os'=s.os:=os;exact⟨v,H',I.call (h':=hh) (g':=g) (d':=d) (t':=t) (ch:=[]) un hok bare (fun b z=>absurd z (by simp)),r,q⟩
end
def rY(sp:Sp)(U5:List V)(E:XK)(t:TA):TE:=fun σ H Q=>t σ H fun vs H1=>sp (vs++U5) H1 Q E
def Binds(K:Frag)(fd:FuncData)(ps:List Str)(ds:List Value):Prop:=
 ∀(s:Shared)(us:List Value),K.In s.heap->(us++ds).length=ps.length->BindsTo s fd ⟨us,[]⟩ (ps.zip (us++ds))
theorem Binds.all{K:Frag}{fd:FuncData}{ps:List Str}(h:∀us:List Value,us.length=ps.length->bindArgs fd ⟨us,[]⟩=pure (ps.zip us)):Binds K fd ps []:=fun s us _ hl=>by
 rw[oY] at hl ⊢;exact .of_eq (h us hl)
def Passes(CX:Rx)(X:Cx)(E:XK):Prop:=∀(ae:List (Addr×Obj))(σ:St)(H:Hp)(s:Shared)(e:Value)(s':Shared),Inv X ae σ H s->CX X.stack H s E e s'->X.xe e s'
section
variable{X:Cx}{CX:Rx}{k:Nat}{f C:Addr}{fd:FuncData}{ps:List Str}{sp:Sp}{U5:List V}{ds:List Value}{E:XK}{x m:Str}{p pos apos:Pos}{e o:Expr}{es:List Expr}{ta:TE}{t:TA}
theorem ab7{ae:List (Addr×Obj)}{σ:St}{H:Hp}{s:Shared}{Q:VK}{us:List Value}{vs:List V}(F:bZ X.prog X.w X.K X.mg X.base CX k f fd ps sp)(hr:jm k X.A)(hb:Binds X.K fd ps ds)(hd:Vals U5 ds)(hx:Passes CX X E)
  (I:Inv X ae σ H s) (r:Vals vs us) (h:sp (vs++U5) H Q E):wpAny (model X.prog X.w) X.A (call (.ref f) us) (EP X ae σ Q) X.xe s:=by
 have r2:Vals (vs++U5) (us++ds):=r.append hd;have hl:(us++ds).length=ps.length:=by rw[<- r2.length]; exact F.len _ _ _ _ h
 refine wpAny_call (codeAny_mono (F.run X.A X.stack s H ⟨us,[]⟩ (us++ds) (vs++U5) Q E hr I.env0 (hb s us I.qg hl) r2 h) fun r s' hq=>?_);cases r with
 | error e=>exact hx ae σ H s e s' I hq
 | ok fl=>
  cases fl with
  | ret u=>exact I.after hq
  | next=>exact False.elim hq
  | brk=>exact False.elim hq
  | cont=>exact False.elim hq
theorem Qx(F:bZ X.prog X.w X.K X.mg X.base CX k f fd ps sp)(hr:jm k X.A)(hg:Gl X x)(hm:X.mg x=some (.ref f))(hk:keepIn X.K (.ref f)=true)(hb:Binds X.K fd ps ds)(hd:Vals U5 ds)(hx:Passes CX X E)
  (ha:PA X (e::es) t) (hdb:(x==("__debug__" : Str))=false:=by decide) (he:starEach (e::es) X.env=(false,eval e X.env)::starEach es X.env:=by rfl) (hpl:(backTo pos (starEach es X.env)).any (·.1)=false:=by rfl) :
  PE X (.Call (.Name x p) (e::es) [] pos) (rY sp U5 E t):=by
 symm;intro Q I h;refine qY (tX I hg hm ?_ hdb);refine callWith_K (h₀:=X.base) I.ok.mod.Xn hk (dI (ha pos ae s σ H _ I h) fun us s1 ⟨vs,H1,I1,r,q⟩=>⟨I1.qg,?_⟩) he hpl;exact ab7 F hr hb hd hx I1 r q
structure Mk(K:Frag)(C f:Addr):Prop where
 makes:PySem.W.makesIn K C=true
 init:findIn K (.ref C) "__init__" = some (some (.ref f))
 fn:isFn K (.ref f)=true
 kp:keepIn K (.ref C)=true
end
def PK(X:Cx)(kws:List Keyword)(t:TA):Prop:=
 ∀(pos:Pos)(ae:List (Addr×Obj))(s:Shared)(σ:St)(H:Hp)(Q:List V->Hp->Prop),Inv X ae σ H s->t σ H Q->wpAny (model X.prog X.w) X.A (evalAll ((backToKw pos (keywordEach kws X.env)).map (·.2))) (AP X ae σ Q) X.xe s
section
variable{X:Cx}{CX:Rx}{k:Nat}{f C:Addr}{fd:FuncData}{ps ks:List Str}{sp:Sp}{E:XK}{x m:Str}{p pos apos aam:Pos}{e o:Expr}{es:List Expr}{kws:List Keyword}{te ta:TE}{t tk:TA}{nm:Option Str}
theorem acg:PK X [] Vx:=fun _ _ _ _ H Q I h=>wpAny_evalAll_nil ⟨[],H,I,.nil,h⟩
theorem ZK(ha:PE X e te)(hr:PK X kws t):PK X (⟨nm,e,aam⟩::kws) (Jb te t):=by
 intro pos ae s σ H Q I h;show wpAny _ _ (evalAll ((do let v <- eval e X.env; standAt pos; pure v)::(backToKw pos (keywordEach kws X.env)).map (·.2))) _ _ s
 refine wpAny_evalAll_cons (aY (dI (ha ae s σ H _ I h) fun u s1 ⟨x,H1,I1,r1,q1⟩=>aY (Gd (b_ ?_))));exact dI (hr pos ae s1 σ H1 _ I1 q1) fun us s2 ⟨xs,H2,I2,r2,q2⟩=>⟨x::xs,H2,I2,.cons r1 r2,q2⟩
structure aiB(K:Frag)(fd:FuncData)(ps ks:List Str)(g:List Value->List Value->List Value)(gV:List V->List V->List V):Prop where
 to:∀(s:Shared)(us ws:List Value),K.In s.heap->(g us ws).length=ps.length->BindsTo s fd ⟨us,ks.zip ws⟩ (ps.zip (g us ws))
 rel:∀{vs:List V}{us:List Value}{zs:List V}{ws:List Value},Vals vs us->Vals zs ws->Vals (gV vs zs) (g us ws)
variable{g:List Value->List Value->List Value}{gV:List V->List V->List V}
end
structure a_(N P:List Str)(sc:Scope):Prop where
 kind:sc.kind=.function
 co:sc.isCoroutine=false
 gen:sc.isGenerator=false
 nd:N.Nodup
 pre:N.take P.length=P
 par:∀x∈P,sc.names.lookup x=some .local\/sc.names.lookup x=some .cell
 acu:∀y∈sc.names,y.2≠.free
theorem Eh{kindOf:Str->Option NameKind}{x:Str}:∀{binds:List (Str×Value)}{m:Str->Option Value},(∀v,(x,v)∉binds)->bindL kindOf binds m x=m x
 | [],_,_=>rfl
 | (n,v)::r,m,h=>by
  unfold bindL;rw[Eh fun w hw=>h w (iR _ hw)];split
  ·have:x≠n:=by rintro rfl; exact h v jw
   simp[this]
  ·rfl
theorem Ej{kindOf:Str->Option NameKind}{x:Str}:∀{binds:List (Str×Value)}{m:Str->Option Value},(∀v,(x,v)∉binds)->bindC kindOf binds m x=m x
 | [],_,_=>rfl
 | (n,v)::r,m,h=>by
  unfold bindC;rw[Ej fun w hw=>h w (iR _ hw)];split
  ·rfl
  ·have:x≠n:=by rintro rfl; exact h v jw
   simp[this]
theorem Ei{kindOf:Str->Option NameKind}{x:Str}{v:Value}:∀{P:List Str}{vs:List Value}{i:Nat}{m:Str->Option Value},P.Nodup->P[i]?=some x->vs[i]?=some v->kindOf x=some .local ->
  bindL kindOf (P.zip vs) m x=some v
 | [],_,_,_,_,h,_,_=>by simp at h
 | _::_,[],_,_,_,_,h,_=>by simp at h
 | p::P,w::vs,0,m,nd,h1,h2,hk=>by
  simp at h1 h2; subst h1; subst h2;show bindL kindOf ((p,w)::P.zip vs) m p=_;unfold bindL;rw[Eh fun v hv=>(vX.mp nd).1 (List.of_mem_zip hv).1,aL hk];simp
 | p::P,w::vs,i+1,m,nd,h1,h2,hk=>by
  show bindL kindOf ((p,w)::P.zip vs) m x=_;unfold bindL;exact Ei (i:=i) (vX.mp nd).2 (by simpa using h1) (by simpa using h2) hk
theorem Ek{kindOf:Str->Option NameKind}{x:Str}{v:Value}:∀{P:List Str}{vs:List Value}{i:Nat}{m:Str->Option Value},P.Nodup->P[i]?=some x->vs[i]?=some v->kindOf x≠some .local ->
  bindC kindOf (P.zip vs) m x=some v
 | [],_,_,_,_,h,_,_=>by simp at h
 | _::_,[],_,_,_,_,h,_=>by simp at h
 | p::P,w::vs,0,m,nd,h1,h2,hk=>by
  simp at h1 h2; subst h1; subst h2;show bindC kindOf ((p,w)::P.zip vs) m p=_;unfold bindC;rw[Ej fun v hv=>(vX.mp nd).1 (List.of_mem_zip hv).1,bD hk];simp
 | p::P,w::vs,i+1,m,nd,h1,h2,hk=>by
  show bindC kindOf ((p,w)::P.zip vs) m x=_;unfold bindC;exact Ek (i:=i) (vX.mp nd).2 (by simpa using h1) (by simpa using h2) hk
def start(N:List Str)(vs:List V):St:=vs.map some++List.replicate (N.length-vs.length) none
def iH(CX:Rx)(P:Program)(w:World)(K:Frag)(mg:Str->Option Value)(base:Heap)(N:List Str)(qual:Str)(scope:Scope)(f:Addr)(cd:Value)(A:Around)(outer:List Env)(s:Shared)(H:Hp)(E:XK):Cx where
 prog:=P
 w:=w
 K:=K
 mg:=mg
 base:=base
 A:=A.deeper (envOfC qual scope s.heap.objs.size f cd)
 N:=N
 s₀:=s
 H₀:=H
 env:=envOfC qual scope s.heap.objs.size f cd
 outer:=outer
 stack:=envOfC qual scope s.heap.objs.size f cd::outer
 ex:=[]
 calm:=true
 fn:=fun _=>true
 pn:=[]
 xe:=fun e s'=>wpAny (model P w) (A.deeper (envOfC qual scope s.heap.objs.size f cd)) (leaving (envOfC qual scope s.heap.objs.size f cd) e) (fun _ s''=>CX outer H s E e s'') (fun e' s''=>CX outer H s E e' s'') s'
theorem KY{sc:Scope}{n:Nat}{x:Str}(h:sc.names.lookup x=some .cell):∃c,(cellsFrom n sc.names []).lookup x=some c:=by
 have q:=cellsFrom_some sc.names n [] (.inl h);exact Bb.mp q
theorem DG{CX:Rx}{P:Program}{w:World}{K:Frag}{mg:Str->Option Value}{base:Heap}{N ps:List Str}{qual:Str}{scope:Scope}{f:Addr}{cd:Value}{A:Around}{outer:List Env}{s s1:Shared}{H:Hp}{E:XK}{us:List Value}{vs:List V}
  (S:a_ N ps scope) (hd:A.handled=none) (e0:aaO P w K mg base A outer s H) (hl:vs.length=ps.length) (r:Vals vs us)
  (x:InCallC s s.heap.objs.size (bindL (envOfC qual scope s.heap.objs.size f cd).kindOf (ps.zip us) fun _=>none) (cellsFrom (s.heap.objs.size+1) scope.names []) (bindC (envOfC qual scope s.heap.objs.size f cd).kindOf (ps.zip us) fun _=>none) s1) :
  Inv (iH CX P w K mg base N qual scope f cd A outer s H E) [] (start N vs) H s1:=by
 have hpl:ps.length<=N.length:=by have:=jF List.length S.pre; rw[jV] at this; omega
 obtain⟨h1,tk,rfl,hk⟩:=x.done;have noA:∀b:Addr,b∉(iH CX P w K mg base N qual scope f cd A outer s H E).ex:=fun b z=>absurd (show b∈([]:List Addr) from z) (by simp)
 refine⟨⟨e0.mod,S.kind,rfl,rfl,dM _,fun y z c h1 h2=>?_,fun y hy=>?_,fun y c _ h=>?_,fun _=>hd,Around.frames_deeper e0.frames,.inr ⟨rfl,rfl⟩,fun b z=>absurd z (noA b),e0.bs,e0.U7,fun b _ _=>noA b,fun b z=>absurd z (noA b),e0.wy,e0.frf⟩,
  rfl,e0.bare,Un.kept hk,⟨_,x.toInCall.ns,fun i y v h1 h2 h3=>?_⟩,fun y c h=>⟨_,x.cell y c h⟩,e0.hok.fresh (dM _),fun y c h=>?_,fun p hp=>absurd (show p∈([]:List (Addr×Obj)) from hp) (by simp),e0.hok.kept hk,?_⟩
 ·exact name_of_addr x.apart (PySem.mem_of_lookup h1) (PySem.mem_of_lookup h2)
 ·have hy:scope.names.lookup y=some .cell\/scope.names.lookup y=some .free:=hy;rcases hy with hy | hy
  ·exact KY hy
  ·exact absurd rfl (S.acu _ (PySem.mem_of_lookup hy))
 ·exact jK (x.above y c (PySem.mem_of_lookup h))
 ·have hi:i<vs.length:=by
   unfold start at h2;by_cases hi:i<vs.length
   ·exact hi
   ·rw[tE (by simpa using hi)] at h2
    rw[Wk] at h2;split at h2 <;> cases h2
  have ha:vs[i]?=some v:=by
   unfold start at h2;rw[v8 (by simpa using hi),g_] at h2
   cases e:vs[i]? with
   | none=>rw[e] at h2; cases h2
   | some a=>rw[e] at h2; cases h2; rfl
  obtain⟨u,hu,rv⟩:=r.get ha
  have hp:ps[i]?=some y:=by
   rw[<- S.pre,List.getElem?_take_of_lt ∅]; exact h1
  have ndP:ps.Nodup:=by rw[<- S.pre]; exact S.nd.sublist (List.take_sublist _ _)
  refine⟨u,rv,?_⟩;rcases S.par y (jx hp) with k | k
  ·exact .inl ⟨k,Ei ndP hp hu k⟩
  ·obtain⟨c,e⟩:=KY (n:=s.heap.objs.size+1) k;refine .inr ⟨.inl k,c,e,?_⟩;have q:=x.cell y c e;rw[Ek ndP hp hu (by show scope.names.lookup y≠_; rw[k]; decide)] at q
   exact q
 ·exact e0.hok.fresh (jK (x.above y c (PySem.mem_of_lookup h)))
 ·unfold start;show _=N.length;rw[c7,bW,JB];omega
theorem abv{CX:Rx}{P:Program}{w:World}{K:Frag}{mg:Str->Option Value}{base:Heap}{k:Nat}{f:Addr}{name qual:Str}{params:Arguments}{body:List Stmt}{scope:Scope}{dV kV doc pm cdv ct oc:Value}{an od:Option Addr}
  {osl:Array (Option Value)} {N ps:List Str} {sp:Sp} (lk:K.lookup f=some ⟨oc,od,.func (fnOf name qual params body scope dV kV doc pm an cdv ct),osl⟩) (hcd:codeIn K cdv qual=true) (S:a_ N ps scope)
  (len:∀vs H Q E,sp vs H Q E->vs.length=ps.length)
  (hbody:∀(A:Around)(outer:List Env)(s:Shared)(H:Hp)(vs:List V)(Q:VK)(E:XK),jm k (A.deeper (envOfC qual scope s.heap.objs.size f cdv))->sp vs H Q E ->
   ∃t,BK (iH CX P w K mg base N qual scope f cdv A outer s H E) body t/\t { nx:=fun _ H'=>Q .non H',rt:=Q } (start N vs) H) :
  bZ P w K mg base CX (k+1) f (fnOf name qual params body scope dV kV doc pm an cdv ct) ps sp:=by
 refine⟨len,fun A outer s H args us vs Q E hr e0 hb r hsp=>?_⟩;have hl:=len _ _ _ _ hsp;have KX:K.In s.heap:=e0.mod.Xn.keeps fun b o e=>(e0.bs b o e).1;have lim:s.heap.NoLimit:=e0.mod.nolimit.keeps fun b o e=>(e0.bs b o e).1
 have hkind:∀y∈ps.zip us,scope.names.lookup y.1=some .local\/(scope.names.lookup y.1=some .cell/\((cellsFrom (s.heap.objs.size+1) scope.names []).lookup y.1).isSome=true):=fun⟨n,v⟩ hy=>by
  rcases S.par n (List.of_mem_zip hy).1 with q | q
  ·exact .inl q
  ·exact .inr ⟨q,cellsFrom_some _ _ _ (.inl q)⟩
 refine codeAny_call_function hr.depth (KX _ _ lk) rfl S.co S.gen rfl (codeRec_of KX hcd) (hb _ _ _ _ ?_);refine wpAny_newFunctionEnv_cells S.kind hkind fun env he s1 x=>?_;subst he;refine⟨lim.keeps x.toInCall.keep,codeAny_func ?_⟩;obtain⟨t,ht,hq⟩:=hbody A outer s H vs Q E (hr.deeper _) hsp;have I:Inv (iH CX P w K mg base N qual scope f cdv A outer s H E) [] (start N vs) H s1:=DG S hr.hd e0 hl r x;refine iM (ht [] s1 (start N vs) H _ I hq) (fun fl s' hs=>?_) fun e s' hs=>hs
 have fin:∀{σ':St}{H':Hp}{v:V}{u:Value},Inv (iH CX P w K mg base N qual scope f cdv A outer s H E) [] σ' H' s'->RelV v u->Q v H'->CE outer P w H s Q u s':=
  fun {σ' H' v u} J rv q=>⟨v,H',J.os,J.bare,J.base,J.hok,rv,q⟩
 cases fl with
 | ret u=>
  obtain⟨v,σ',H',J,rv,q⟩:=hs;exact fin J rv q
 | next=>
  obtain⟨σ',H',J,q⟩:=hs;exact fin (v:=V.non) (u:=Value.none) J rfl q
 | brk=>
  obtain⟨_,_,_,q⟩:=hs;exact False.elim q
 | cont=>
  obtain⟨_,_,_,q⟩:=hs;exact False.elim q
section
variable{X:Cx}{x:Str}{p pos:Pos}{e:Expr}{es:List Expr}{t:TA}{id T:String}{r:List V->Hp->VK->Prop}
def tCB(r:List V->Hp->VK->Prop)(t:TA):TE:=fun σ H Q=>t σ H fun vs H1=>r vs H1 Q
theorem WD(hc:cZ X (.builtin id) r)(hg:Gl X x)(hm:X.mg x=none)(hv:bootBuiltins x=some (.builtin id))(ha:PA X (e::es) t)(hn:x ≠ "__name__" := by decide)(hdb:(x==("__debug__" : Str))=false:=by decide)
  (he:starEach (e::es) X.env=(false,eval e X.env)::starEach es X.env:=by rfl) (hpl:(backTo pos (starEach es X.env)).any (·.1)=false:=by rfl):PE X (.Call (.Name x p) (e::es) [] pos) (tCB r t):=by
 symm;intro Q I h;refine qY (ir I hg hm hv ?_ hn hdb);exact PyProof.Rows.callWith_builtin1 (dI (ha pos ae s σ H _ I h) fun us s1 ⟨vs,H1,I1,r1,q1⟩=>hc ae s1 σ H1 vs us Q I1 r1 q1) he hpl
theorem Sh(hc:cZ X (.type T) r)(hg:Gl X x)(hm:X.mg x=none)(hv:bootBuiltins x=some (.type T))(ha:PA X (e::es) t)(hn:x ≠ "__name__" := by decide)(hdb:(x==("__debug__" : Str))=false:=by decide)
  (he:starEach (e::es) X.env=(false,eval e X.env)::starEach es X.env:=by rfl) (hpl:(backTo pos (starEach es X.env)).any (·.1)=false:=by rfl):PE X (.Call (.Name x p) (e::es) [] pos) (tCB r t):=by
 symm;intro Q I h;refine qY (ir I hg hm hv ?_ hn hdb);exact PyProof.Rows.callWith_type1 (dI (ha pos ae s σ H _ I h) fun us s1 ⟨vs,H1,I1,r1,q1⟩=>hc ae s1 σ H1 vs us Q I1 r1 q1) he hpl
theorem Mz(hc:cZ X (.type T) r)(hg:Gl X x)(hm:X.mg x=none)(hv:bootBuiltins x=some (.type T))(hn:x ≠ "__name__" := by decide)(hdb:(x==("__debug__" : Str))=false:=by decide) :
  PE X (.Call (.Name x p) [] [] pos) (tCB r Vx):=by
 symm;intro Q I h;refine qY (ir I hg hm hv ?_ hn hdb);exact PyProof.Rows.callWith_type0 (hc ae s σ H [] [] Q I .nil h)
end
end L2
namespace HT
open PySem PyProof.Rows
section
open PySem.SeqAt
open PySem.AutoSeq1 (wpAny_loadPart')
open PySem.MeetsSeq PySem.MeetsSeq2 PySem.MeetsSeq3
end
section
variable{prog:Program}{w:World}{A:Around}{E:Value->Shared->Prop}{s:Shared}
theorem aaC{t b:Addr}{vs ws:List Value}{Q:Value->Shared->Prop}(ht:IsTup s.heap t vs.toArray)(hb:IsTup s.heap b ws.toArray)(hv:vs≠[])
  (h1:ws=[]->Q (.ref t) s) (h2:ws≠[]->Q (.ref s.heap.objs.size) { s with heap:=s.heap.push { cls:=.type "tuple",data:=.seq (vs++ws).toArray } })
  (hsz:vs.length+ws.length<=sizeLine):wpAny (model prog w) A (binaryOp .Add (.ref t) (.ref b)) Q E s:=by
 obtain⟨⟨cls,dd,data,sl⟩,ho,hc,n,hd⟩:=id ht;obtain⟨⟨cls2,dd2,data2,sl2⟩,ho2,hc2,n2,hd2⟩:=id hb;simp only at hc hd hc2 hd2;subst hc hd hc2 hd2;have e:vs.toArray++ws.toArray=(vs++ws).toArray:=by simp
 by_cases hw:ws=[]
 ·exact concat_meets ⟨_,ho,rfl⟩ ⟨_,ho2,rfl⟩ noFill_tuple_add seq_tuple_add PySem.F.slot_tuple_add PySem.F.entry_tuple_add (PySem.F.args_tuple_add_2 _ _)
   (tuple_addW1 t b vs.toArray ws.toArray n n2 dd dd2 sl sl2 (by simpa using hv) (by simp[hw])) ⟨ho,ho2,h1 hw⟩
 ·refine concat_meets ⟨_,ho,rfl⟩ ⟨_,ho2,rfl⟩ noFill_tuple_add seq_tuple_add PySem.F.slot_tuple_add PySem.F.entry_tuple_add (PySem.F.args_tuple_add_2 _ _)
   (tuple_addW2 t b vs.toArray ws.toArray n n2 dd dd2 sl sl2 (by simpa using hv) (by simpa using hw) (by rw[gq,gq]; exact hsz)) ⟨ho,ho2,?_⟩
  rw[e];exact h2 hw
def gP(n d:Nat):Option Int->Nat
 | none=>d
 | some v=>if v<0 then(v+(n:Int)).toNat else min v.toNat n
theorem Jr(n d:Nat):gP n d none=d:=rfl
theorem wL(n d k:Nat):gP n d (some (k:Int))=min k n:=by
 show(if(k:Int)<0 then((k:Int)+(n:Int)).toNat else min (k:Int).toNat n)=min k n
 rw[bD ∅,uR]
theorem ab3(n d:Nat)(hd:d<=n)(o:Option Int):gP n d o<=n:=by
 cases o with
 | none=>exact hd
 | some v=>
  show(if v<0 then(v+(n:Int)).toNat else min v.toNat n)<=n
  by_cases hv:v<0
  ·rw[aL hv]; omega
  ·rw[bD hv]; exact Nat.min_le_right _ _
theorem Rk(v:Int)(n d:Nat):(if v<0 then max (v+(n:Int)) 0 else min v (n:Int))=((gP n d (some v):Nat):Int):=by
 show(if v<0 then max (v+(n:Int)) 0 else min v (n:Int))=(((if v<0 then(v+(n:Int)).toNat else min v.toNat n):Nat):Int)
 by_cases hv:v<0
 ·simp only[aL hv]; omega
 ·simp only[bD hv]; omega
theorem O5(lo hi:Option Int)(n:Nat):Builtin.Slice.sliceAdjust lo hi 1 (n:Int)=(((gP n 0 lo:Nat):Int),((gP n n hi:Nat):Int)):=by
 have h1:¬((1:Int)<0):=by omega
 unfold Builtin.Slice.sliceAdjust;simp only[h1,if_false];refine Prod.ext ?_ ?_
 ·cases lo with
  | none=>rfl
  | some v=>exact Rk v n 0
 ·cases hi with
  | none=>rfl
  | some v=>exact Rk v n n
theorem Mx(i j:Nat):Builtin.Slice.slicePlaces (i:Int) (j:Int) 1=j-i:=by
 unfold Builtin.Slice.slicePlaces;have h1:(1:Int)>0:=by omega
 simp only[h1,if_true,Int.ediv_one];split <;> omega
theorem xM{v:Value}{o:Option Int}{Q:Option Int->Shared->Prop}(p:IsPart v o)(h:Q o s):wpAny (model prog w) A (Builtin.Slice.slicePartIndex v) Q E s:=by
 cases p with
 | none=>exact slicePart_none h
 | int i t=>exact slicePart_int h
theorem lY{sl:Addr}{vl vu:Value}{lo hi:Option Int}{n:Nat}{Q:Int×Int×Nat->Shared->Prop}(hs:s.heap.IsSliceOf sl vl vu .none)(pl:IsPart vl lo)(pu:IsPart vu hi)
  (h:Q (((gP n 0 lo:Nat):Int),1,gP n n hi-gP n 0 lo) s):wpAny (model prog w) A (Builtin.Slice.sliceApplied (.ref sl) (pure (n:Int))) Q E s:=by
 obtain⟨os,hos,hcs,hds⟩:=id hs;unfold Builtin.Slice.sliceApplied Builtin.Slice.sliceFields;refine aY (aY (jT hos hds (x:=vl) rfl (aY (jT hos hds (x:=vu) rfl (aY (jT hos hds (x:=.none) rfl (b_ ?_)))))));refine aY (slicePart_none ?_);show wpAny _ _ (if((1:Int)==0)=true then _ else _) _ _ s
 rw[bD ⋯]
 refine aY (xM pl (aY (xM pu (aY (b_ ?_)))));show wpAny _ _ (match Builtin.Slice.sliceAdjust lo hi 1 (n:Int) with | (lo,hi)=>pure (lo,(1:Int),Builtin.Slice.slicePlaces lo hi 1)) _ _ s
 rw[O5 lo hi n];show wpAny _ _ (pure (((gP n 0 lo:Nat):Int),(1:Int),Builtin.Slice.slicePlaces ((gP n 0 lo:Nat):Int) ((gP n n hi:Nat):Int) 1)) _ _ s;rw[Mx];exact b_ h
theorem Wv(xs:Array Value)(i k:Nat):((List.range k).filterMap fun(m:Nat)=>xs[((i:Int)+(m:Int)*1).toNat]?).toArray=((xs.toList.drop i).take k).toArray:=by
 have e:(fun(m:Nat)=>xs[((i:Int)+(m:Int)*1).toNat]?)=fun m=>xs[i+m]?:=by
  funext m
  have:((i:Int)+(m:Int)*1).toNat=i+m:=by omega
  rw[this]
 rw[e];have:=pick_run xs i k;rw[List.filterMap_map] at this;have e2:((fun x=>xs[x]?)∘fun x=>i+x)=fun m=>xs[i+m]?:=rfl;rw[e2] at this;rw[this]
theorem uc{t sl:Addr}{items:Array Value}{vl vu:Value}{lo hi:Option Int}{Q:Value->Shared->Prop}(ht:IsTup s.heap t items)(hs:s.heap.IsSliceOf sl vl vu .none)(pl:IsPart vl lo)(pu:IsPart vu hi)
  (hw:¬(gP items.size 0 lo=0/\gP items.size items.size hi=items.size))
  (h:Q (.ref s.heap.objs.size) { s with heap:=s.heap.push { cls:=.type "tuple",data:=.seq ((items.toList.drop (gP items.size 0 lo)).take (gP items.size items.size hi-gP items.size 0 lo)).toArray } })
  (hsz:items.size<=sizeLine):wpAny (model prog w) A (getItem (.ref t) (.ref sl)) Q E s:=by
 have Q8:sizeOk (.seq ((items.toList.drop (gP items.size 0 lo)).take (gP items.size items.size hi-gP items.size 0 lo)).toArray):=by
  show((items.toList.drop (gP items.size 0 lo)).take (gP items.size items.size hi-gP items.size 0 lo)).toArray.size<=sizeLine;rw[gq,jV,yz,nP];omega
 have hj:gP items.size items.size hi<=items.size:=ab3 _ _ (dM _) hi;obtain⟨os,hos,hcs,hds⟩:=id hs;have hTs:s.TypeIs (.ref sl) "slice" := ⟨os,hos,hcs⟩;unfold getItem
 try with_reducible refine nO ?_
 first | refine aY (b_ ?_) | skip
 refine aY (wpAny_sequenceKey ht.typeIs ⋯ ?_)
 refine aY (R9 (name:=Str.ofString "__getitem__") ht.typeIs PyProof.Rows.slot_tuple_getitem
  (yC PyProof.Rows.slot_tuple_getitem ht.typeIs entry_tuple_getitem ?_ (args_tuple_getitem _ _)))
 show wpAny _ _ (Builtin.Tuple.tupleItemsOf (.ref t) >>= _) _ _ s;refine aY (tupleItemsOf_ ht ?_);refine aY (CZ hTs ?_);rw[aL ⋯]
 refine aY (lY hs pl pu ?_)
 have hno:¬((((gP items.size 0 lo:Nat):Int)==0&&(1:Int)==1&&(gP items.size items.size hi-gP items.size 0 lo)==items.size)=true):=by
  intro q;rw[Gg,Gg] at q;have q1:((gP items.size 0 lo:Nat):Int)=0:=eq_of_beq q.1.1;have q2:gP items.size items.size hi-gP items.size 0 lo=items.size:=eq_of_beq q.2;exact hw ⟨∅,∅⟩
 show wpAny _ _ (if(((gP items.size 0 lo:Nat):Int)==0&&(1:Int)==1&&(gP items.size items.size hi-gP items.size 0 lo)==items.size)=true then _ else _) _ _ s
 rw[bD hno,Wv]
 first
  | exact aY (m:=Builtin.Tuple.tupleExact _) (vY (b_ ⟨_,rfl,b_ h⟩) Q8)
  | exact aY (m:=Builtin.Tuple.tupleExact _) (vY (aY (b_ (b_ ⟨_,rfl,b_ h⟩))) Q8)
  | exact aY (aY (m:=Builtin.Tuple.tupleExact _) (vY (b_ (b_ ⟨_,rfl,b_ h⟩)) Q8))
  | exact aY (aY (m:=Builtin.Tuple.tupleExact _) (vY (b_ ⟨_,rfl,b_ h⟩) Q8))
end
end HT
namespace L2
open PySem PySem.Spec PyProof.Rows
abbrev TO:=St->Hp->(Option Int->Hp->Prop)->Prop
structure PO(X:Cx)(e:Option Expr)(t:TO):Prop where
 mk ::
 go :
 ∀(ae:List (Addr×Obj))(s:Shared)(σ:St)(H:Hp)(Q:Option Int->Hp->Prop),Inv X ae σ H s->t σ H Q ->
  wpAny (model X.prog X.w) X.A (evalPart e X.env) (fun u s'=>∃o H',Inv X ae σ H' s'/\IsPart u o/\Q o H') X.xe s
instance {X:Cx} {e:Option Expr} {t:TO}:CoeFun (PO X e t) (fun _=>
 ∀(ae:List (Addr×Obj))(s:Shared)(σ:St)(H:Hp)(Q:Option Int->Hp->Prop),Inv X ae σ H s->t σ H Q ->
  wpAny (model X.prog X.w) X.A (evalPart e X.env) (fun u s'=>∃o H',Inv X ae σ H' s'/\IsPart u o/\Q o H') X.xe s):=⟨PO.go⟩
def Pa:TO:=fun _ H Q=>Q none H
def aaZ(t:TE):TO:=fun σ H Q=>t σ H fun x H1=>∃i,x=.int i/\Q (some i) H1
section
variable{X:Cx}{e:Expr}{te:TE}{lo hi:Option Expr}{tl th:TO}{pos p2:Pos}
theorem dC:PO X none Pa:=by
 symm;intro Q I h;rw[evalPart_none];exact b_ ⟨none,H,I,.none,h⟩
theorem cN(h:PE X e te):PO X (some e) (aaZ te):=by
 symm;intro Q I hw;rw[evalPart_some];refine dI (h ae s σ H _ I hw) fun u s1 qx=>?_;obtain⟨x,H1,I1,r1,q1⟩:=qx;obtain⟨i,rfl,q⟩:=q1;obtain⟨t,rfl⟩:=r1;exact⟨some i,H1,I1,.int i t,q⟩
structure SlR(X:Cx)(r:V->Option Int->Option Int->Hp->VK->Prop):Prop where
 mk ::
 go :
 ∀(ae:List (Addr×Obj))(s:Shared)(σ:St)(H:Hp)(x:V)(v vl vu:Value)(lo hi:Option Int)(sl:Addr)(Q:VK),Inv X ae σ H s->RelV x v->s.heap.IsSliceOf sl vl vu .none->IsPart vl lo->IsPart vu hi->r x lo hi H Q ->
  ∃T id,typeLookup (.type T) "__getitem__" = pure (some (.builtin id))/\s.TypeIs v T/\wpAny (model X.prog X.w) X.A (getItem v (.ref sl)) (EP X ae σ Q) X.xe s
instance {X:Cx} {r:V->Option Int->Option Int->Hp->VK->Prop}:CoeFun (SlR X r) (fun _=>
 ∀(ae:List (Addr×Obj))(s:Shared)(σ:St)(H:Hp)(x:V)(v vl vu:Value)(lo hi:Option Int)(sl:Addr)(Q:VK),Inv X ae σ H s->RelV x v->s.heap.IsSliceOf sl vl vu .none->IsPart vl lo->IsPart vu hi->r x lo hi H Q ->
  ∃T id,typeLookup (.type T) "__getitem__" = pure (some (.builtin id))/\s.TypeIs v T/\wpAny (model X.prog X.w) X.A (getItem v (.ref sl)) (EP X ae σ Q) X.xe s):=⟨SlR.go⟩
def tSl(r:V->Option Int->Option Int->Hp->VK->Prop)(te:TE)(tl th:TO):TE:=fun σ H Q=>te σ H fun x H1=>tl σ H1 fun l H2=>th σ H2 fun u H3=>r x l u H3 Q
theorem cz{r:V->Option Int->Option Int->Hp->VK->Prop}(hr:SlR X r)(he:PE X e te)(hl:PO X lo tl)(hu:PO X hi th):PE X (.Subscript e (.Slice lo hi none p2) pos) (tSl r te tl th):=by
 symm;intro Q I h;refine Subscript_ (dI (he ae s σ H _ I h) fun v s1 qx=>?_);obtain⟨x,H1,I1,r1,q1⟩:=qx;refine wpAny_Slice (dI (hl ae s1 σ H1 _ I1 q1) fun vl s2 ⟨l,H2,I2,pl,q2⟩=>dI (hu ae s2 σ H2 _ I2 q2) fun vu s3 qx=>?_);obtain⟨u,H3,I3,pu,q3⟩:=qx;rw[evalPart_none];refine b_ ?_;have I4:Inv X ae σ H3 { s3 with heap:=s3.heap.push { cls:=.type "slice",data:=.fields #[vl,vu,.none] } }:=I3.kept (t':=s3.toks) fun b ob q=>dJ _ q
 obtain⟨T,id,hT,ht,hg⟩:=hr ae { s3 with heap:=s3.heap.push { cls:=.type "slice",data:=.fields #[vl,vu,.none] } } σ H3 x v vl vu l u s3.heap.objs.size Q I4 r1 (Heap.IsSliceOf.new ..) pl pu q3
 show wpAny (model X.prog X.w) X.A (subscriptTail e (.Slice lo hi none p2) v (.ref s3.heap.objs.size)) (EP X ae σ Q) X.xe { s3 with heap:=s3.heap.push { cls:=.type "slice",data:=.fields #[vl,vu,.none] } }
 exact tail_any (ops:=[.ref s3.heap.objs.size,v]) ht hT hg (by with_unfolding_all rfl)
def nq(xs:List V)(lo hi:Option Int):List V:=(xs.drop (HT.gP xs.length 0 lo)).take (HT.gP xs.length xs.length hi-HT.gP xs.length 0 lo)
theorem vU(xs:List V)(lo hi:Option Int):(nq xs lo hi).length<=xs.length:=by
 unfold nq;rw[jV,yz];omega
def ags(K:Frag):V->Option Int->Option Int->Hp->VK->Prop:=fun x lo hi H Q=>∃a xs,x=.ref a/\cB K H a xs /\
 ¬(HT.gP xs.length 0 lo=0/\HT.gP xs.length xs.length hi=xs.length)/\∀p,H p=none->Q (.ref p) (upd H p (.tup (nq xs lo hi)))
theorem ab0:SlR X (ags X.K):=by
 symm;intro x v vl vu lo hi sl Q I rx hs pl pu h;obtain⟨a,xs,rfl,hx,hw,q⟩:=h;cases rx;obtain⟨its,r,ht,hz⟩:=I.tuple hx;have hlen:its.toArray.size=xs.length:=by rw[gq]; exact r.length.symm
 refine⟨"tuple",_,PyProof.Rows.slot_tuple_getitem.lookup,ht.typeIs,?_⟩;refine HT.uc ht hs pl pu (by rw[hlen]; exact hw) ?_ (by rw[hlen]; exact hz)
 rw[hlen];refine⟨.ref s.heap.objs.size,_,I.laid (t':=s.toks) (o:=.tup (nq xs lo hi)) (fun b ob q=>dJ _ q) (dM _) ?_,rfl,q _ (I.hok.fresh (dM _))⟩;exact⟨qt (vU xs lo hi) hz,_,(r.drop (HT.gP xs.length 0 lo)).take (HT.gP xs.length xs.length hi-HT.gP xs.length 0 lo),IsTup.new _ _⟩
def aeE(K:Frag):R2:=fun x y H Q=>∃a b xs ys,x=.ref a/\y=.ref b/\cB K H a xs/\cB K H b ys/\xs≠[]/\xs.length+ys.length<=sizeLine /\
 (ys=[]->Q (.ref a) H)/\(ys≠[]->∀p,H p=none->Q (.ref p) (upd H p (.tup (xs++ys))))
theorem Vals.GJ{xs:List V}{us:List Value}(r:Vals xs us):us=[]↔xs=[]:=by
 cases r with
 | nil=>simp
 | cons _ _=>simp
theorem Z0:rR X (binaryOp .Add) (aeE X.K):=by
 symm;intro x y v u Q I rx ry h;obtain⟨a,b,xs,ys,rfl,rfl,ha,hb,hx,hz,q1,q2⟩:=h;cases rx;cases ry;obtain⟨its,r1,p1,_⟩:=I.tuple ha;obtain⟨its2,r2,p2,_⟩:=I.tuple hb;refine HT.aaC p1 p2 (fun z=>hx (r1.GJ.mp z)) (fun z=>⟨.ref a,H,I,rfl,q1 (r2.GJ.mp z)⟩) (fun z=>?_) (by rw[<- r1.length,<- r2.length]; exact hz)
 refine⟨.ref s.heap.objs.size,_,I.laid (t':=s.toks) (o:=.tup (xs++ys)) (fun b ob q=>dJ _ q) (dM _) ?_,rfl,q2 (fun w=>z (r2.GJ.mpr w)) _ (I.hok.fresh (dM _))⟩;exact⟨by rw[c7]; exact hz,_,r1.append r2,IsTup.new _ _⟩
end
def Xp(n:Nat)(i:Int):Option Nat:=if 0<=i then(if i<n then some i.toNat else none) else if -(n:Int)<=i then some (i+n).toNat else none
def Ik{α:Type}(xs:List α)(i:Int):Option α:=(Xp xs.length i).bind fun j=>xs[j]?
theorem QX{n:Nat}{i:Int}{j:Nat}(h:Xp n i=some j):seqIndex? i n=some j/\j<n/\-(n:Int)<=i/\i<n:=by
 unfold Xp at h;by_cases h0:0<=i
 ·rw[aL h0] at h;by_cases h1:i<n
  ·rw[aL h1] at h;have e:i.toNat=j:=Option.some.inj h;exact⟨by rw[seqIndex_of h0 h1,e],∅,∅,h1⟩
  ·rw[bD h1] at h; cases h
 ·rw[bD h0] at h;by_cases h1:-(n:Int)<=i
  ·rw[aL h1] at h;have e:(i+n).toNat=j:=Option.some.inj h;exact⟨by rw[seqIndex_neg ∅ h1,e],∅,h1,∅⟩
  ·rw[bD h1] at h; cases h
theorem wZ{α:Type}{xs:List α}{i:Int}{v:α}(h:Ik xs i=some v):∃j,seqIndex? i xs.length=some j/\xs[j]?=some v/\j<xs.length/\-(xs.length:Int)<=i/\i<xs.length:=by
 unfold Ik at h;cases e:Xp xs.length i with
 | none=>rw[e] at h; cases h
 | some j=>
  rw[e] at h;obtain⟨h1,h2,h3,h4⟩:=QX e;exact⟨j,h1,h,h2,h3,h4⟩
theorem bw{α:Type}{xs:List α}{j:Nat}{v:α}(h:xs[j]?=some v):Ik xs (j:Int)=some v:=by
 have hj:j<xs.length:=(gC.mp h).1
 have e:Xp xs.length (j:Int)=some j:=by
  unfold Xp;rw[aL ∅,aL ∅]; simp
 unfold Ik; rw[e]; exact h
theorem Ah{α:Type}(xs:List α)(v:α):Ik (xs++[v]) (-1)=some v:=by
 have hl:(xs++[v]).length=xs.length+1:=by simp
 have e:Xp (xs++[v]).length (-1)=some xs.length:=by
  unfold Xp;rw[hl,bD ⋯,aL ∅]
  congr 1
  omega
 unfold Ik;rw[e];show(xs++[v])[xs.length]?=some v;simp
def aaM(b:Expr):Prop:=∀o i,subscripted b false o i=operate [o,i] (getItem o i)
structure YS(X:Cx)(r:R2):Prop where
 mk ::
 go :
 ∀(value slice:Expr)(ae:List (Addr×Obj))(s:Shared)(σ:St)(H:Hp)(x y:V)(v u:Value)(Q:VK),Inv X ae σ H s->RelV x v->RelV y u->r x y H Q ->
  subscripted slice false v u=operate [v,u] (getItem v u)->wpAny (model X.prog X.w) X.A (subscriptTail value slice v u) (EP X ae σ Q) X.xe s
instance {X:Cx} {r:R2}:CoeFun (YS X r) (fun _=>
 ∀(value slice:Expr)(ae:List (Addr×Obj))(s:Shared)(σ:St)(H:Hp)(x y:V)(v u:Value)(Q:VK),Inv X ae σ H s->RelV x v->RelV y u->r x y H Q ->
  subscripted slice false v u=operate [v,u] (getItem v u)->wpAny (model X.prog X.w) X.A (subscriptTail value slice v u) (EP X ae σ Q) X.xe s):=⟨YS.go⟩
def MtR(X:Cx)(id:String)(r:V->List V->Hp->VK->Prop):Prop:=
 ∀(ae:List (Addr×Obj))(s:Shared)(σ:St)(H:Hp)(x:V)(xs:List V)(v:Value)(us:List Value)(Q:VK),Inv X ae σ H s->RelV x v->Vals xs us->r x xs H Q ->
  wpAny (model X.prog X.w) X.A (call (.builtin id) (v::us)) (EP X ae σ Q) X.xe s
section
variable{X:Cx}{a b:Expr}{ta tb:TE}{pos:Pos}
theorem YS.or{r r':R2}(h:YS X r)(h':YS X r'):YS X (fun x y H Q=>r x y H Q\/r' x y H Q):=by
 refine .mk ?_;intro value slice ae s σ H x y v u Q I rx ry q hs;rcases q with q | q
 ·exact h value slice ae s σ H x y v u Q I rx ry q hs
 ·exact h' value slice ae s σ H x y v u Q I rx ry q hs
theorem bB{r:R2}(hr:YS X r)(ha:PE X a ta)(hb:PE X b tb)(hs:aaM b):PE X (.Subscript a b pos) (YJ r ta tb):=by
 symm;intro Q I h;exact Subscript_ (ac5 ha hb I h fun v u s2 x y H2 I2 rx ry q=>hr a b ae s2 σ H2 x y v u Q I2 rx ry q (hs _ _))
def agv(K:Frag):R2:=fun x y H Q=>∃p xs i v,x=.ref p/\y=.int i/\d7 K H p xs/\Ik xs i=some v/\Q v H
def agu(K:Frag):R2:=fun x y H Q=>∃p xs i v,x=.ref p/\y=.int i/\cB K H p xs/\Ik xs i=some v/\Q v H
theorem QV:YS X (agv X.K):=by
 refine .mk ?_;intro value slice ae s σ H x y v u Q I rx ry h hs;obtain⟨p,xs,i,z,rfl,rfl,hq,he,q⟩:=h;cases rx;obtain⟨t,rfl⟩:=ry;obtain⟨its,r,pl,hz⟩:=I.list hq;obtain⟨j,h1,h2,h3,h4,h5⟩:=wZ he;obtain⟨w,ew,rw'⟩:=r.get h2;have hl:=r.length;have hn:=zg;have fin:EP X ae σ Q w s:=⟨z,H,I,rw',q⟩;by_cases h0:0<=i
 ·have hj:i.toNat=j:=by
   rw[seqIndex_of h0 h5] at h1;exact Option.some.inj h1
  exact item_listR pl.isList h0 ∅ (by rw[hj]; simpa using ew) fin hs
 ·have hj:(i+(its.toArray.size:Int)).toNat=j:=by
   rw[seqIndex_neg ∅ h4] at h1
   rw[gq,<- hl];exact Option.some.inj h1
  exact subscriptTail_builtinR (x:=w) pl.isList.typeIs slot_list_getitem.lookup
   (wpAny_getItem_list_neg (Q:=fun r s'=>r=w/\EP X ae σ Q r s') pl.isList ∅ (by rw[gq] <;> omega) ∅ (by rw[hj]; simpa using ew) ⟨rfl,fin⟩) hs
theorem acK:YS X (agu X.K):=by
 refine .mk ?_;intro value slice ae s σ H x y v u Q I rx ry h hs;obtain⟨p,xs,i,z,rfl,rfl,hq,he,q⟩:=h;cases rx;obtain⟨t,rfl⟩:=ry;obtain⟨its,r,pl,hz⟩:=I.tuple hq;obtain⟨j,h1,h2,h3,h4,h5⟩:=wZ he;obtain⟨w,ew,rw'⟩:=r.get h2;have hl:=r.length;have hn:=zg;have fin:EP X ae σ Q w s:=⟨z,H,I,rw',q⟩;exact subscriptTail_builtinR (x:=w) pl.typeIs slot_tuple_getitem.lookup
  (getItem_tuple (j:=j) (Q:=fun r s'=>r=w/\EP X ae σ Q r s') pl ∅ ∅ (by rw[gq,<- hl]; exact h1) (by simpa using ew) ⟨rfl,fin⟩) hs
theorem Nf(its:List Value)(n j:Nat)(u:Value):Obj.mapSeq (·.setIfInBounds j u) { cls:=.type "list",data:=.seq its.toArray n }={ cls:=.type "list",data:=.seq (its.set j u).toArray n }:=by
 simp[Obj.mapSeq]
theorem Inv.lst{ae:List (Addr×Obj)}{σ:St}{H:Hp}{s:Shared}{p:Addr}{xs:List V}(I:Inv X ae σ H s)(h:H p=some (.lst xs)) :
  ∃(its:List Value)(n:Nat),Vals xs its/\s.heap.get? p=some { cls:=.type "list",data:=.seq its.toArray n }/\xs.length<=sizeLine:=by
 obtain⟨z,its,n,r,e⟩:=I.hok p _ h;exact⟨its,n,r,e,z⟩
theorem Inv.acC{ae:List (Addr×Obj)}{σ:St}{H:Hp}{s:Shared}{p:Addr}{xs ys:List V}{its its':List Value}{n n':Nat}{f:Obj->Obj}(I:Inv X ae σ H s)(h:H p=some (.lst xs))
  (ho:s.heap.get? p=some { cls:=.type "list",data:=.seq its.toArray n }) (hf:f { cls:=.type "list",data:=.seq its.toArray n }={ cls:=.type "list",data:=.seq its'.toArray n' }) (r:Vals ys its') (hz:ys.length<=sizeLine) (t:Nat) :
  Inv X ae σ (upd H p (.lst ys)) { s with heap:=s.heap.update p f,toks:=t }:=by
 have e:(s.heap.update p f).get? p=some { cls:=.type "list",data:=.seq its'.toArray n' }:=by
  rw[A_ f ho (by rw[hf] <;> rfl),hf]
 refine I.write (x:=p) (e:=p) (by rw[h]; trivial) (.inl rfl) (fun b u hb q=>(vZ _ _ (Ne.symm hb)).trans q) ⟨_,e⟩ ?_
 exact⟨hz,its',n',r,e⟩
def aex:V->V->V->Hp->(Hp->Prop)->Prop:=fun o i v H Q=>∃p xs k j,o=.ref p/\i=.int k/\H p=some (.lst xs)/\Xp xs.length k=some j/\Q (upd H p (.lst (xs.set j v)))
theorem set_list:Yy X aex:=by
 symm;intro o i v ov iv u Q I ro ri rv h;obtain⟨p,xs,k,j,rfl,rfl,hp,hj,q⟩:=h;cases ro;obtain⟨t,rfl⟩:=ri;obtain⟨its,n,r,ho,hz⟩:=I.lst hp;obtain⟨h1,h2,h3,h4⟩:=QX hj;have hl:=r.length;have hn:=zg
 have I':Inv X ae σ (upd H p (.lst (xs.set j v))) { s with heap:=s.heap.update p (Obj.mapSeq (·.setIfInBounds j u)) }:=
  I.acC hp ho (Nf its n j u) (r.set rv j) (by rw[List.length_set]; exact hz) s.toks
 by_cases h0:0<=k
 ·have hk:k.toNat=j:=by
   rw[seqIndex_of h0 h4] at h1;exact Option.some.inj h1
  exact PySem.W.ki_setAt ho h0 ∅ (by rw[gq,<- hl]; exact h4) (by rw[hk]; exact⟨_,I',q⟩)
 ·have hk:(k+(its.toArray.size:Int)).toNat=j:=by
   rw[seqIndex_neg ∅ h3] at h1
   rw[gq,<- hl];exact Option.some.inj h1
  exact PySem.W.ki_setBack ho ∅ (by rw[gq,<- hl]; exact h3) ∅ (by rw[hk]; exact⟨_,I',q⟩)
theorem FT(lo hi:Option Int)(n:Nat):(sliceBounds lo hi none n).1=((HT.gP n 0 lo:Nat):Int)/\(sliceBounds lo hi none n).2.1=((HT.gP n n hi:Nat):Int)/\(sliceBounds lo hi none n).2.2=1:=by
 refine⟨?_,?_,rfl⟩
 ·cases lo with
  | none=>simp[sliceBounds,HT.gP]
  | some i=>
   simp only[sliceBounds,HT.gP,Option.getD_none,show(1:Int)>0 by decide,if_true]
   by_cases h:i<0
   ·simp only[h,if_true] <;> omega
   ·simp only[h,if_false] <;> omega
 ·cases hi with
  | none=>simp[sliceBounds,HT.gP]
  | some i=>
   simp only[sliceBounds,HT.gP,Option.getD_none,show(1:Int)>0 by decide,if_true]
   by_cases h:i<0
   ·simp only[h,if_true] <;> omega
   ·simp only[h,if_false] <;> omega
theorem Av(its:List Value)(lo hi:Option Int):slicePick its.toArray lo hi none=((its.drop (HT.gP its.length 0 lo)).take (HT.gP its.length its.length hi-HT.gP its.length 0 lo)).toArray:=by
 obtain⟨h1,h2,h3⟩:=FT lo hi its.toArray.size;unfold slicePick;rw[h1,h2,h3];simp only[sliceRange_one,pick_run,gq] <;> rfl
def ZD(K:Frag):V->Option Int->Option Int->Hp->VK->Prop:=fun x lo hi H Q=>∃a xs,x=.ref a/\d7 K H a xs/\∀p,H p=none->Q (.ref p) (upd H p (.lst (nq xs lo hi)))
theorem rZ:SlR X (ZD X.K):=by
 symm;intro x v vl vu lo hi sl Q I rx hs pl pu h;obtain⟨a,xs,rfl,hx,q⟩:=h;cases rx;obtain⟨its,r,ht,hz⟩:=I.list hx;have hlen:=r.length;refine⟨"list",_,slot_list_getitem.lookup,ht.isList.typeIs,?_⟩;refine wpAny_getItem_list_slice ht.isList hs pl pu .none (by simp) ?_ (by rw[gq] <;> omega)
 rw[Av,<- hlen];refine⟨.ref s.heap.objs.size,_,I.laid (t':=s.toks) (o:=.lst (nq xs lo hi)) (fun b ob q=>dJ _ q) (dM _) ?_,rfl,q _ (I.hok.fresh (dM _))⟩;exact⟨qt (vU xs lo hi) hz,_,0,(r.drop (HT.gP xs.length 0 lo)).take (HT.gP xs.length xs.length hi-HT.gP xs.length 0 lo),dF _ rfl⟩
theorem Ht:cZ X (.builtin "len") (fun xs H Q=>∃p ys,xs=[.ref p]/\(d7 X.K H p ys\/cB X.K H p ys)/\Q (.int ys.length) H):=by
 symm;intro xs us Q I r h;obtain⟨p,ys,rfl,hq,q⟩:=h;obtain⟨u,rfl,rx⟩:=vals1 r;cases rx;have hn:=zg;rcases hq with hq | hq
 ·obtain⟨its,r',pl,hz⟩:=I.list hq;have hlen:=r'.length;exact Calls.call_len_list pl.isList (by simp only[gq] <;> omega) ⟨.int ys.length,H,I.tok _,⟨s.toks+1,by rw[gq,hlen]⟩,q⟩
 ·obtain⟨its,r',pl,hz⟩:=I.tuple hq;have hlen:=r'.length;exact len_tuple pl (by simp only[gq] <;> omega) ⟨.int ys.length,H,I.tok _,⟨s.toks+1,by rw[gq,hlen]⟩,q⟩
theorem ug:cZ X (.type "list") (fun xs H Q=>∃p ys,xs=[.ref p]/\(d7 X.K H p ys\/cB X.K H p ys)/\∀l,H l=none->Q (.ref l) (upd H l (.lst ys))):=by
 symm;intro xs us Q I r h;obtain⟨p,ys,rfl,hq,q⟩:=h;obtain⟨u,rfl,rx⟩:=vals1 r;cases rx;have fin:∀(its:List Value),Vals ys its->ys.length<=sizeLine->∀(h':Heap)(c':Nat),(∀b o',s.heap.get? b=some o'->h'.get? b=some o') ->
   h'.get? s.heap.objs.size=some { cls:=.type "list",dict:=none,data:=.seq its.toArray c',slots:=#[] }->EP X ae σ Q (.ref s.heap.objs.size) { s with heap:=h' }:=fun its r' hz h' c' kp e=>
  ⟨.ref s.heap.objs.size,_,I.laid (t':=s.toks) kp (dM _) (show cH X.prog X.w _ h' _ (.lst ys) from⟨hz,its,c',r',e⟩),rfl,q _ (I.hok.fresh (dM _))⟩
 rcases hq with hq | hq
 ·obtain⟨its,r',pl,hz⟩:=I.list hq;have hlen:=r'.length;obtain⟨o,ho,hc,n,hd⟩:=pl.isList;exact call_list_seq p (.inl rfl) ho hc hd (fun h' c' kp e=>fin its r' hz h' c' kp e) (by simp only[gq] <;> omega)
 ·obtain⟨its,r',pl,hz⟩:=I.tuple hq;have hlen:=r'.length;obtain⟨o,ho,hc,n,hd⟩:=pl;exact call_list_seq p (.inr rfl) ho hc hd (fun h' c' kp e=>fin its r' hz h' c' kp e) (by simp only[gq] <;> omega)
theorem Bj:cZ X (.type "tuple") (fun xs H Q=>∃p ys,xs=[.ref p]/\((d7 X.K H p ys/\∀l,H l=none->Q (.ref l) (upd H l (.tup ys)))\/(cB X.K H p ys/\Q (.ref p) H))):=by
 symm;intro xs us Q I r h;obtain⟨p,ys,rfl,h⟩:=h;obtain⟨u,rfl,rx⟩:=vals1 r;cases rx;rcases h with⟨hq,q⟩ | ⟨hq,q⟩
 ·obtain⟨its,r',pl,hz⟩:=I.list hq;have hlen:=r'.length;refine call_tuple_list pl.isList (fun h' kp=>?_) (by simp only[gq] <;> omega)
  have I1:Inv X ae σ H { s with heap:=h' }:=I.kept (t':=s.toks) kp
  have I2:Inv X ae σ (upd H h'.objs.size (.tup ys)) { s with heap:=h'.push { cls:=.type "tuple",data:=.seq its.toArray } }:=
   I1.laid (t':=s.toks) (fun b o e=>dJ _ e) (dM _) (show cH X.prog X.w _ _ _ (.tup ys) from⟨hz,its,r',IsTup.new _ _⟩)
  exact⟨.ref h'.objs.size,_,I2,rfl,q _ (I1.hok.fresh (dM _))⟩
 ·obtain⟨its,r',pl,hz⟩:=I.tuple hq;exact call_tuple_same pl ⟨.ref p,H,I,rfl,q⟩
def tyV(K:Frag)(T:String)(x:V)(H:Hp):Prop:=match x with
 | .str _=>T = "str"
 | .int _=>T = "int"
 | .ref p=>(T = "list" /\ ∃xs,d7 K H p xs)\/(T = "tuple" /\ ∃o,K.lookup p=some o/\o.cls=.type "tuple" /\ o.dict=none) \/
   (T = "dict" /\ ((∃kvs,H p=some (.dK kvs))\/∃kvs,H p=some (.dT kvs)))\/(T = "set" /\ ∃S n,H p=some (.set S n))
 | _=>False
theorem Vq{ae:List (Addr×Obj)}{σ:St}{H:Hp}{s:Shared}{T:String}{x:V}{v:Value}(I:Inv X ae σ H s)(r:RelV x v)(ty:tyV X.K T x H) :
  s.TypeIs v T/\∀a,v=.ref a->∃ob,s.heap.get? a=some ob/\ob.dict=none:=by
 cases x with
 | str z=>
  obtain⟨t,rfl⟩:=r;cases(show T = "str" from ty);exact⟨typeIs_str s z t,fun _ e=>nomatch e⟩
 | int i=>
  obtain⟨t,rfl⟩:=r;cases(show T = "int" from ty);exact⟨typeIs_int s i t,fun _ e=>nomatch e⟩
 | ref p=>
  cases r;rcases ty with⟨rfl,xs,hq⟩ | ⟨rfl,o,hk,hc,hd⟩ | ⟨rfl,hk⟩ | ⟨rfl,S,n,hk⟩
  ·obtain⟨its,_,pl,_⟩:=I.list hq;refine⟨pl.isList.typeIs,fun a e=>?_⟩;cases e;obtain⟨o,n,e,c,hd,_⟩:=pl;exact⟨o,e,hd⟩
  ·refine⟨⟨o,I.qg p o hk,hc⟩,fun a e=>?_⟩;cases e;exact⟨o,I.qg _ o hk,hd⟩
  ·have z:∃o,s.heap.get? p=some o/\o.ExactDict:=by
    rcases hk with⟨kvs,hk⟩ | ⟨kvs,hk⟩
    ·obtain⟨_,_,_,_,o,_,_,e,ex,_⟩:=I.hok p _ hk;exact⟨o,e,ex⟩
    ·obtain⟨_,_,_,_,o,_,_,e,ex,_⟩:=I.hok p _ hk;exact⟨o,e,ex⟩
   obtain⟨o,e,ex⟩:=z;refine⟨⟨o,e,ex.1⟩,fun a e2=>?_⟩;cases e2;exact⟨o,e,ex.2.1⟩
  ·obtain⟨o,_,_,_,e,ex,_⟩:=I.hok p _ hk;refine⟨⟨o,e,ex.1⟩,fun a e2=>?_⟩;cases e2;exact⟨o,e,ex.2.1⟩
 | _=>exact False.elim ty
def aeb(K:Frag)(T:String)(r:V->List V->Hp->VK->Prop)(to:TE):TE:=fun σ H Q=>to σ H fun x H1=>tyV K T x H1/\r x [] H1 Q
def tBM(K:Frag)(T:String)(r:V->List V->Hp->VK->Prop)(to:TE)(t:TA):TE:=fun σ H Q=>to σ H fun x H1=>tyV K T x H1/\t σ H1 fun xs H2=>r x xs H2 Q
variable{o e:Expr}{es:List Expr}{to:TE}{t:TA}{name:Str}{apos cpos:Pos}{T id:String}{r:V->List V->Hp->VK->Prop}
theorem aco(pa:PlainAttrs T)(slot:Slot T name id)(hty:typeOf (.builtin id)=pure (.type "method_descriptor"))(hm:MtR X id r)(ho:PE X o to)
  (hbase:attributeBase o name X.env (eval o X.env)=eval o X.env:=by rfl) (hline:(apos.endLine==cpos.line)=true:=by rfl):PE X (.Call (.Attribute o name apos) [] [] cpos) (aeb X.K T r to):=by
 symm;intro Q I h;refine wpAny_Call_method0_late hbase hline (dI (ho ae s σ H _ I h) fun v s1 qx=>?_);obtain⟨x,H1,I1,r1,ty,q1⟩:=qx;obtain⟨h1,h2⟩:=Vq I1 r1 ty;exact⟨T,id,pa,slot,hty,h1,h2,Calls.callWith_builtin rfl (PySem.evalArgs_none (hm ae s1 σ H1 x [] v [] Q I1 r1 .nil q1))⟩
theorem aeH(pa:PlainAttrs T)(slot:Slot T name id)(hty:typeOf (.builtin id)=pure (.type "method_descriptor"))(hm:MtR X id r)(ho:PE X o to)(ha:PA X (e::es) t)
  (hbase:attributeBase o name X.env (eval o X.env)=eval o X.env:=by rfl)
  (hfew:((backTo cpos (starEach (e::es) X.env)).all (fun x=>!x.1)&&(backToKw cpos (keywordEach [] X.env)).all (fun x=>x.1.isSome)
   && decide ((e::es).length+([]:List Keyword).length+(if([]:List Keyword).isEmpty then 0 else 1)<30))=true:=by rfl)
  (hline:(apos.endLine==cpos.line)=true:=by rfl) (hs:starEach (e::es) X.env=(false,eval e X.env)::starEach es X.env:=by rfl) (hplain:(backTo cpos (starEach es X.env)).any (·.1)=false:=by rfl) :
  PE X (.Call (.Attribute o name apos) (e::es) [] cpos) (tBM X.K T r to t):=by
 symm;intro Q I h;refine wpAny_Call_method_late hbase hfew hline rfl (dI (ho ae s σ H _ I h) fun v s1 qx=>?_);obtain⟨x,H1,I1,r1,ty,q1⟩:=qx;obtain⟨h1,h2⟩:=Vq I1 r1 ty;refine⟨T,id,pa,slot,hty,h1,h2,?_⟩;have hA:=ha cpos ae s1 σ H1 _ I1 q1;rw[hs] at hA ⊢;refine Calls.callWith_builtin (by show(false || (backTo cpos (starEach es X.env)).any (·.1))=false; rw[hplain] <;> rfl) (Calls.evalArgs_plain ?_)
 exact dI hA fun us s2 ⟨vs,H2,I2,r2,q2⟩=>hm ae s2 σ H2 x vs v us Q I2 r1 r2 q2
end
def MtM(X:Cx)(id:String)(r:V->List V->Hp->VK->Prop):Prop:=
 ∀(ae:List (Addr×Obj))(s:Shared)(σ:St)(H:Hp)(x:V)(xs:List V)(v:Value)(us:List Value)(Q:VK),Inv X ae σ H s->RelV x v->Vals xs us->r x xs H Q ->
  wpAny (model X.prog X.w) X.A (call (.builtin id) (v::us)) (EP X ae σ Q) X.xe s
theorem Vals.un{x:V}{xs:List V}{us:List Value}(h:Vals (x::xs) us):∃u r,us=u::r/\RelV x u/\Vals xs r:=by
 cases h with
 | cons r t=>exact⟨_,_,rfl,r,t⟩
theorem Vals.no{us:List Value}(h:Vals [] us):us=[]:=by
 cases h;rfl
theorem Vals.one{x:V}{us:List Value}(h:Vals [x] us):∃u,us=[u]/\RelV x u:=by
 obtain⟨u,r,rfl,h1,h⟩:=h.un;cases h.no;exact⟨u,rfl,h1⟩
theorem Vals.two{x y:V}{us:List Value}(h:Vals [x,y] us):∃u v,us=[u,v]/\RelV x u/\RelV y v:=by
 obtain⟨u,r,rfl,h1,h⟩:=h.un;obtain⟨v,rfl,h2⟩:=h.one;exact⟨u,v,rfl,h1,h2⟩
theorem Vals.zero:∀{us:List Value},Vals [] us->us=[]
 | _,.nil=>rfl
theorem Vals.reverse{xs:List V}{us:List Value}(h:Vals xs us):Vals xs.reverse us.reverse:=by
 induction h with
 | nil=>exact .nil
 | cons r t ih=>rw[List.reverse_cons,List.reverse_cons]; exact Vals.append ih (.cons r .nil)
section
variable{X:Cx}{ae:List (Addr×Obj)}{σ:St}{H:Hp}{s:Shared}{l b:Addr}{xs ys zs:List V}
theorem Inv.acD{its its':List Value}{n:Nat}{f:Array Value->Array Value}{t':Nat}(I:Inv X ae σ H s)(hH:H l=some (.lst xs))
  (e:s.heap.get? l=some { cls:=.type "list",data:=.seq its.toArray n }) (hf:f its.toArray=its'.toArray) (hv:Vals ys its') (hz:ys.length<=sizeLine) :
  Inv X ae σ (upd H l (.lst ys)) { s with heap:=s.heap.update l (Obj.mapSeq f),toks:=t' }:=by
 have q:=PySem.IsL.update e f;rw[hf] at q;refine I.write (x:=l) (e:=l) (by rw[hH]; exact trivial) (.inl rfl) (fun b' u hb hu=>(vZ s.heap (Obj.mapSeq f) (Ne.symm hb)).trans hu) ⟨_,q⟩ ?_
 exact⟨hz,its',_,hv,q⟩
theorem Inv.acE{its:List Value}{t':Nat}(I:Inv X ae σ H s)(hv:Vals ys its)(hz:ys.length<=sizeLine) :
  Inv X ae σ (upd H s.heap.objs.size (.lst ys)) { s with heap:=s.heap.push { cls:=.type "list",data:=.seq its.toArray },toks:=t' }:=
 I.laid (fun _ _ q=>dJ _ q) (dM _) ⟨hz,its,0,hv,dF _ rfl⟩
theorem Inv.fresh(I:Inv X ae σ H s):H s.heap.objs.size=none:=I.hok.fresh (dM _)
theorem Inv.Xb(I:Inv X ae σ H s)(hH:H l=some (.lst xs)):xs.length<=sizeLine/\∃(its:List Value)(n:Nat),Vals xs its/\xs.length=its.length/\s.heap.get? l=some { cls:=.type "list",data:=.seq its.toArray n }:=by
 obtain⟨z,its,n,r,e⟩:=I.hok l _ hH;exact⟨z,its,n,r,r.length,e⟩
theorem W0{n:Nat}(h:n<=sizeLine):Builtin.List.listTooLong n=false:=by
 unfold Builtin.List.listTooLong;exact jL ∅
end
section
variable{X:Cx}
def Gb:V->List V->Hp->VK->Prop:=fun x vs H Q=>∃l xs y,x=.ref l/\vs=[y]/\H l=some (.lst xs)/\xs.length<sizeLine/\Q .non (upd H l (.lst (xs++[y])))
theorem dY:MtM X "list.append" Gb:=by
 intro ae s σ H x vs v us Q I rx rv h;obtain⟨l,xs,y,rfl,rfl,hH,hz,q⟩:=h;cases rx;obtain⟨u,rfl,ru⟩:=rv.one;obtain⟨z,its,n,r,hl,e⟩:=I.Xb hH;refine call_meets F.slot_list_append ⟨_,e,rfl⟩ F.entry_list_append (F.args_list_append_2 _ _) (PySem.list_append l its.toArray n u (by rw[gq]; omega)) ⟨e,?_⟩
 refine⟨.non,_,I.acD (its':=its++[u]) hH e (by simp) (r.append (.cons ru .nil)) ?_,rfl,q⟩
 rw[c7,List.length_singleton];omega
def Wc:V->List V->Hp->VK->Prop:=fun x vs H Q=>∃l xs,x=.ref l/\vs=[]/\H l=some (.lst xs)/\Q .non (upd H l (.lst xs.reverse))
theorem M7:MtM X "list.reverse" Wc:=by
 intro ae s σ H x vs v us Q I rx rv h;obtain⟨l,xs,rfl,rfl,hH,q⟩:=h;cases rx;have hus:=rv.zero;subst hus;obtain⟨z,its,n,r,hl,e⟩:=I.Xb hH;refine call_meets F.slot_list_reverse ⟨_,e,rfl⟩ F.entry_list_reverse (F.args_list_reverse_1 _) (AutoSeq1.list_reverse_list_0 l its.toArray n (by rw[gq]; omega)) ⟨e,?_⟩
 refine⟨.non,_,I.acD (its':=its.reverse) hH e (by simp) r.reverse ?_,rfl,q⟩
 rw[List.length_reverse];omega
def Jv:R2:=fun x y H Q=>∃l b xs zs,x=.ref l/\y=.ref b/\H l=some (.lst xs)/\H b=some (.lst zs)/\xs.length+zs.length<=sizeLine/\∀p,H p=none->Q (.ref p) (upd H p (.lst (xs++zs)))
theorem uX:rR X (binaryOp .Add) Jv:=by
 symm;intro x y v u Q I rx ry h;obtain⟨l,b,xs,zs,rfl,rfl,hH,hB,hz,q⟩:=h;cases rx;cases ry;obtain⟨z,its,n,r,hl,e⟩:=I.Xb hH;obtain⟨z2,its2,n2,r2,hl2,e2⟩:=I.Xb hB;refine PySem.P.add_list e e2 ?_ (by rw[gq,gq]; omega)
 have ea:its.toArray++its2.toArray=(its++its2).toArray:=by simp
 rw[ea];exact⟨.ref _,_,I.acE (t':=s.toks) (r.append r2) (by rw[c7]; omega),rfl,q _ I.fresh⟩
end
section
variable{prog:Program}{w:World}{A:Around}{E:Value->Shared->Prop}{s:Shared}
end
section
variable{X:Cx}
end
end L2
namespace Att
open PySem PySem.W PySem.Calls PyProof.Rows
theorem wu{P:Params}{h:Heap}:∀(ns:List Int)(vs:List Value),WellAll P h vs (ns.map WData.int)->IntsAre vs ns:=by
 intro ns
 induction ns with
 | nil=>
  intro vs w;rw[List.map_nil] at w;cases w;exact .nil
 | cons n ns ih=>
  intro vs w;rw[oX] at w;cases w with
  | cons a b=>
   cases a;exact .cons _ _ (ih _ b)
theorem RZ{l:OpenLaw}{n:Nat}(hn:l.most=some n){P:Params}{h:Heap}{args:List WData}{vals:List Value}
  (hpre:l.row.toRowW.claim.pre args=true) (hwl:WellAll P h vals args) :
  ∃a vs ns,vals=[Value.ref a]/\args=[WData.list (ns.map WData.int)]/\h.get? a=some { cls:=.type "list",data:=.seq vs.toArray }/\IntsAre vs ns/\ns.length<=n:=by
 have hsh:WShape.hasAll [] args [.list .int]=true:=(pre_splitW hpre).1;have hc:l.pre.holds [] { args:=args }=true:=(pre_splitW hpre).2;obtain⟨d,r,rfl,h1,h2⟩:=hasAllW_cons hsh;obtain rfl:=hasAllW_nil h2;obtain⟨xs,rfl,h3⟩:=hasW_list h1;obtain⟨ns,rfl⟩:=items_int h3
 have hlen:ns.length<=n:=by
  unfold OpenLaw.pre at hc
  have h4:(WTm.not (.lt (.lit (.int (n:Int))) (.len (.arg 0)))).holds [] { args:=[.list (ns.map .int)] }=true:=by
   have h4:=(holds_andW hc).1;rw[hn] at h4;exact h4
  have h5:=condW_of h4 (w_not (w_lt w_lit (w_len_list (w_arg rfl))));rw[bW] at h5;refine Nat.le_of_not_lt fun q=>?_;have q':(n:Int)<((ns.length:Nat):Int):=by omega
  first
   | (rw[ju q'] at h5; exact absurd h5 ⋯)
   | (simp at h5; omega)
 cases hwl with
 | cons w1 w2=>
  cases w2;cases w1 with
  | list ho hall=>exact⟨_,_,ns,rfl,rfl,ho,wu ns _ hall,hlen⟩
theorem Sg(l:OpenLaw)(args:List WData):l.row.toRowW.claim.post args (.bool true) args=true:=
 postW_of (r:=l.row.toRowW) (X:=(true==true))
  (show WShape.has [] (.bool true) .bool=true by first | rfl | decide | simp[WShape.has,WShape.arms,WShape.armsAll])
  (show(WTm.eq .res (.lit (.bool true))).value [] { args:=args,res:=some (.bool true),after:=args }=some (.bool (true==true)) from w_eq_bool (w_res rfl) w_lit) rfl
theorem Le{l:OpenLaw}{n:Nat}{q:Program}{loose:List Str}{XP:(Str->Option Value)->Heap->Prop}{YP:World->Heap->Prop}{d:DefRec}
  (hn:l.most=some n) (hdf:d.params.defaults=[])
  (call:∀(w:World)(s₀ s₁:Shared)(mg mb:Str->Option Value)(fa:Addr)(o:Obj)(pm cd doc:Value)(a:Addr)(vs:List Value)(ns:List Int),
   Ground q loose [] XP w s₀ mg mb s₁.heap->YP w s₁.heap ->
   s₁.heap.get? fa=some o->o.data=.func (docDef d.name d.params d.body d.scope pm cd doc)->s₁.heap.CodeRec cd d.name->mg d.name=some (.ref fa) ->
   s₁.heap.get? a=some { cls:=.type "list",data:=.seq vs.toArray }->IntsAre vs ns->ns.length<=n->s₁.gens = #[] ->
   codeAny (model l.prog w) callerA (.call (.ref fa) ⟨[.ref a],[]⟩) (fun r s'=>r=.ok (.ret (.bool true))/\OldK s₁.heap s'.heap/\s'.os=s₁.os/\AllBare s'.gens) s₁) :
  WalkO q loose XP YP l.row.toRowW d [] (fun f vs=>PySem.call f vs):=by
 intro w s₀ s₁ mg mb G Y fa o pm cd doc dV kV ho hd hcd hD hmg hg args vals as hpre hlay hrd hwl hlo;obtain rfl:dV=.none:=Dflts.none hD hdf;obtain rfl:kV=.none:=Dflts.noKw hD;obtain⟨a,vs,ns,rfl,rfl,hobj,hints,hlen⟩:=RZ hn hpre hwl;refine enter_call (codeAny_mono (call w s₀ s₁ mg mb fa o pm cd doc a vs ns G Y ho (fd_plain hd) hcd hmg hobj hints hlen hg) fun r s' hq=>?_);obtain⟨rfl,h2,h3,h4⟩:=hq;exact⟨.inl ⟨.bool true,.bool true,[],rfl,fun _=>rfl,.bool true,Sg l _,fun _=>⟨List.Pairwise.nil,fun _ hm=>(nomatch hm)⟩⟩,h2,h3,h4⟩
section
variable{prog:Program}{w:World}{A:Around}{E:Value->Shared->Prop}{s:Shared}{K:Frag}
def ledger(h:Heap)(L d:Addr):List (Addr×Obj):=(List.range h.objs.size).filterMap fun a=>if a=L\/a=d then none else(h.get? a).map fun o=>(a,o)
end
end Att
namespace L2
open PySem PySem.Spec PyProof.Rows
theorem BX:∀{vs:List Value}{ns:List Int},IntsAre vs ns->Vals (ns.map V.int) vs
 | _,_,.nil=>.nil
 | _,_,.cons n t h=>.cons ⟨t,rfl⟩ (BX h)
def Only(H:Hp):Prop:=∀b,H b=none\/∃o xs,H b=some (.Ig o (.lst xs))
theorem Xk{P:Program}{w:World}{K:Frag}{mg mb:Str->Option Value}{CX:Rx}{k:Nat}{fa a:Addr}{fd:FuncData}{x:Str}{sp:Sp}{s₁:Shared}{vs:List Value}{ns:List Int}
  (KX:K.In s₁.heap) (hns:s₁.heap.Ns mainGlobals mg) (hb:s₁.heap.Ns builtinsNs mb) (hbb:∀x:Str,x ≠ "__name__" -> mb x=bootBuiltins x) (hlim:s₁.heap.NoLimit) (hg:s₁.gens = #[])
  (ha:s₁.heap.get? a=some { cls:=.type "list",data:=.seq vs.toArray }) (hi:IntsAre vs ns) (hl:ns.length<=sizeLine) (hr:jm k callerA)
  (F:∀base:Heap,K.In base->base.Ns mainGlobals mg->bZ P w K mg base CX k fa fd [x] sp) (hbind:∀(s:Shared)(u:Value),BindsTo s fd ⟨[u],[]⟩ [(x,u)])
  (hsp:∀H:Hp,Only H->d7 K H a (ns.map V.int)->sp [.ref a] H (fun v _=>v=.bl true) fun _ _ _=>False)
  (hCX:∀H e s',CX [] H s₁ (fun _ _ _=>False) e s'->False) :
  codeAny (model P w) callerA (.call (.ref fa) ⟨[.ref a],[]⟩) (fun r s'=>r=.ok (.ret (.bool true))/\OldK s₁.heap s'.heap/\s'.os=s₁.os/\AllBare s'.gens) s₁:=by
 have rv:=BX hi;have lenV:=hi.length;have core:∀H:Hp,Only H->d7 K H a (ns.map V.int)->mL P w H s₁.heap->(∀b,H b≠none->b=a)->(H a≠none->K.lookup a=none) ->
   codeAny (model P w) callerA (.call (.ref fa) ⟨[.ref a],[]⟩) (fun r s'=>r=.ok (.ret (.bool true))/\OldK s₁.heap s'.heap/\s'.os=s₁.os/\AllBare s'.gens) s₁:=by
  intro H hO hS hok hA hK;have Rn:∀{b:Addr}{o:Obj},s₁.heap.get? b=some o->H b=none->(Hd s₁.heap H).get? b=some o:=fun e n=>XH e n
  have noA:∀{b:Addr}{o:Obj}{es:Array DictEntry}{ep:Nat},s₁.heap.get? b=some o->o.data=.dict es ep->H b=none:=fun {b o es ep} e d=>by
   cases q:H b with
   | none=>rfl
   | some u=>
    have e':b=a:=hA b (by rw[q]; simp)
    subst e';rw[ha] at e; cases e;have d':Data.seq vs.toArray _=Data.dict es ep:=d;cases d'
  have nsK:∀{b:Addr}{m:Str->Option Value},s₁.heap.Ns b m->(Hd s₁.heap H).Ns b m:=fun {b m} ⟨o,es,ep,e,d,r⟩=>⟨o,es,ep,Rn e (noA e d),d,r⟩
  have hKb:K.In (Hd s₁.heap H):=fun b o e=>Rn (KX b o e) (by
   cases q:H b with
   | none=>rfl
   | some u=>
    have e':b=a:=hA b (by rw[q]; simp)
    subst e'
    rw[hK (by rw[q]; simp)] at e; cases e)
  have hM:Mod K mg (Hd s₁.heap H):=⟨hKb,nsK hns,⟨mb,nsK hb,hbb⟩,let ⟨mc,h1,h2⟩:=hlim; ⟨mc,nsK h1,h2⟩⟩;have e0:aaO P w K mg (Hd s₁.heap H) callerA [] s₁ H:=⟨rfl,hM,fun b o e=>Z4 e,Nat.le_of_eq (T5 _ _),trivial,fun b hb=>absurd (show b∈([]:List Addr) from hb) (by simp),hok,.of_eq hg⟩
  refine codeAny_mono ((F _ hKb (nsK hns)).run callerA [] s₁ H ⟨[.ref a],[]⟩ [.ref a] [.ref a] _ _ hr e0 (hbind s₁ (.ref a)) (.cons rfl .nil) (hsp H hO hS)) fun r s' h=>?_;cases r with
  | error e=>exact(hCX H e s' h).elim
  | ok fl=>
   cases fl with
   | next=>exact False.elim h
   | brk=>exact False.elim h
   | cont=>exact False.elim h
   | ret u=>
    obtain⟨v,H',os,bare,un,hok',r',q⟩:=h;have q':v=.bl true:=q;subst q';obtain rfl:u=Value.bool true:=r';refine⟨rfl,OldK.of_keep fun b o e=>?_,os,bare⟩;cases q:H b with
    | none=>exact un.keep b o e q (by intro z; exact absurd (show b∈([]:List Addr) from z) (by simp)) (by simp)
    | some u=>
     rcases hO b with z | ⟨ob,xs,z⟩
     ·rw[q] at z; cases z
     ·have z2:=un.zM b ob _ z;obtain⟨e1,_⟩:=hok b _ z;obtain⟨e2,_⟩:=hok' b _ z2;rw[e] at e1; cases e1;exact e2
 cases hk:K.lookup a with
 | some o=>
  have e:=KX a o hk;rw[ha] at e;cases e;refine core (fun _=>none) (fun _=>.inl rfl) (.inr ⟨_,vs.toArray,_,hk,rfl,rfl,rfl,by rw[gq,lenV]; exact hl,by simpa using rv⟩) (fun b u z=>by have z':(none:Option HO)=some u:=z; cases z') (fun b z=>absurd rfl z) fun z=>absurd rfl z
 | none=>
  refine core (fun b=>if b=a then some (.Ig { cls:=.type "list",data:=.seq vs.toArray } (.lst (ns.map V.int))) else none) (fun b=>?_) (.inl (.inr ⟨{ cls:=.type "list",data:=.seq vs.toArray },aL rfl⟩)) (fun b u z=>?_) (fun b z=>?_) fun _=>hk
  ·by_cases hb:b=a
   ·exact .inr ⟨_,_,aL hb⟩
   ·exact .inl (bD hb)
  ·by_cases hb:b=a
   ·have z':=(aL hb).symm.trans z;cases z';subst hb;exact⟨ha,by rw[bW]; exact hl,vs,_,rv,ha⟩
   ·have z':=(bD hb).symm.trans z;cases z'
  ·by_cases hb:b=a
   ·exact hb
   ·exact absurd (bD hb) z
abbrev KOf{K:Frag}{h:Heap}(_:K.In h):Frag:=K
theorem Ze{l:PySem.W.OpenLaw}{n k:Nat}{q:Program}{loose:List Str}{XP:(Str->Option Value)->Heap->Prop}{YP:World->Heap->Prop}{d:DefRec}{K:Params->Frag}{CX:World->Rx}{sp:World->Sp}{x:Str}
  (hn:l.most=some n) (hn2:n<=sizeLine) (hdf:d.params.defaults=[]) (hr:jm k callerA)
  (hY:∀(w:World)(h:Heap),YP w h->(K w.params).In h)
  (F:∀(w:World)(mg:Str->Option Value)(fa:Addr)(h:Heap),(K w.params).In h->h.Ns mainGlobals mg->mg d.name=some (.ref fa) ->
   ∃fd:FuncData,(∀(s:Shared)(u:Value),BindsTo s fd ⟨[u],[]⟩ [(x,u)]) /\
    ∀base:Heap,(K w.params).In base->base.Ns mainGlobals mg->bZ l.prog w (K w.params) mg base (CX w) k fa fd [x] (sp w))
  (hsp:∀(w:World)(H:Hp)(a:Addr)(ns:List Int),ns.length<=n->Only H->d7 (K w.params) H a (ns.map V.int)->sp w [.ref a] H (fun v _=>v=.bl true) fun _ _ _=>False)
  (hCX:∀(w:World)(H:Hp)(s:Shared)(e:Value)(s':Shared),CX w [] H s (fun _ _ _=>False) e s'->False) :
  PySem.W.WalkO q loose XP YP l.row.toRowW d [] (fun f vs=>PySem.call f vs):=by
 refine Att.Le hn hdf fun w s₀ s₁ mg mb fa o pm cd doc a vs ns G Y ho hd hcd hmg hobj hints hlen hg=>?_;have KX:=hY w _ Y;obtain⟨fd,hb,hF⟩:=F w mg fa _ KX G.T.g hmg;exact Xk KX G.T.g G.T.b G.T.builtins G.T.nolimit hg hobj hints (qt hlen hn2) hr hF hb (fun H hO hS=>hsp w H a ns hlen hO hS) fun H e s'=>hCX w H s₁ e s'
end L2
namespace L2
open PySem PySem.Spec PyProof.Rows
def gk(s:Stmt):Arguments:=match s with
 | .FunctionDef _ a _ _ _ _ _ _ _ _=>a
 | _=>{ posonlyargs:=[],args:=[],vararg:=none,kwonlyargs:=[],kw_defaults:=[],kwarg:=none,defaults:=[] }
def eU(s:Stmt):List Stmt:=match s with
 | .FunctionDef _ _ b _ _ _ _ _ _ _=>b
 | _=>[]
def aK(s:Stmt):Scope:=match s with
 | .FunctionDef _ _ _ _ _ _ sc _ _ _=>sc
 | _=>{ kind:=.function,names:=[],isGenerator:=false,isCoroutine:=false }
abbrev iJ:Rx:=fun _ _ _ _ _ _=>False
abbrev E0:XK:=fun _ _ _=>False
theorem abi{X:Cx}:Passes iJ X E0:=fun _ _ _ _ _ _ _ h=>h.elim
structure jc(K:Frag)(x qual:Str)(st:Stmt)(f:Addr)(fd:FuncData):Prop where
 ex:∃(oc:Value)(od:Option Addr)(kV doc pm:Value)(an:Option Addr)(cdv ct:Value)(osl:Array (Option Value)),
  fd=fnOf x qual (gk st) (eU st) (aK st) .none kV doc pm an cdv ct/\K.lookup f=some ⟨oc,od,.func fd,osl⟩/\codeIn K cdv qual=true
 kp:keepIn K (.ref f)=true
section
variable{P:Program}{w:World}{K:Frag}{mg:Str->Option Value}{base:Heap}
theorem jc.ok{x qual:Str}{st:Stmt}{f:Addr}{fd:FuncData}{N ps:List Str}{k:Nat}{sp:Sp}(F:jc K x qual st f fd)(S:a_ N ps (aK st))(len:∀vs H Q E,sp vs H Q E->vs.length=ps.length)
  (hbody:∀(cdv:Value)(A:Around)(outer:List Env)(s:Shared)(H:Hp)(vs:List V)(Q:VK)(E:XK),jm k (A.deeper (envOfC qual (aK st) s.heap.objs.size f cdv))->sp vs H Q E ->
   ∃t,BK (iH iJ P w K mg base N qual (aK st) f cdv A outer s H E).nox (eU st) t/\t { nx:=fun _ H'=>Q .non H',rt:=Q } (start N vs) H):bZ P w K mg base iJ (k+1) f fd ps sp:=by
 obtain⟨oc,od,kV,doc,pm,an,cdv,ct,osl,rfl,lk,hcd⟩:=F.ex;refine abv lk hcd S len fun A outer s H vs Q E hr hsp=>?_;obtain⟨t,h,q⟩:=hbody cdv A outer s H vs Q E hr hsp;exact⟨t,h.nox,q⟩
theorem jc.binds{x qual:Str}{st:Stmt}{f:Addr}{fd:FuncData}{ps:List Str}(F:jc K x qual st f fd)
  (h:∀(kV doc pm:Value)(an:Option Addr)(cdv ct:Value)(us:List Value),us.length=ps.length->bindArgs (fnOf x qual (gk st) (eU st) (aK st) .none kV doc pm an cdv ct) ⟨us,[]⟩=pure (ps.zip us)):Binds K fd ps []:=by
 obtain⟨oc,od,kV,doc,pm,an,cdv,ct,osl,rfl,lk,hcd⟩:=F.ex;exact .all (h kV doc pm an cdv ct)
theorem XX{x qual:Str}{st:Stmt}{f:Addr}{oc:Value}{od an:Option Addr}{osl:Array (Option Value)}{kV doc pm cdv ct:Value}(l:K.lookup f=some ⟨oc,od,.func (fnOf x qual (gk st) (eU st) (aK st) .none kV doc pm an cdv ct),osl⟩)
  (c:codeIn K cdv qual=true) (k:keepIn K (.ref f)=true):jc K x qual st f (fnOf x qual (gk st) (eU st) (aK st) .none kV doc pm an cdv ct):=⟨⟨oc,od,kV,doc,pm,an,cdv,ct,osl,rfl,l,c⟩,k⟩
end
theorem bC{n:Nat}(h:n<=1000):n<sizeLine:=Nat.lt_of_le_of_lt h ⋯
section
variable{X:Cx}
theorem pv(i:Nat){x:Str}{pos:Pos}(hN:X.N[i]?=some x:=by rfl)(hv:Vis X.env.scope x:=by walk_at "v")(hd:(x==("__debug__" : Str))=false:=by decide)
  (hcd:(x==("__classdict__" : Str))=false:=by decide):PE X (.Name x pos) (xx i):=ack hN hv hd hcd
end
def aF(H H':Hp):Prop:=∀b o,H b=some o->H' b=some o
theorem aF.refl(H:Hp):aF H H:=fun _ _ h=>h
theorem aF.trans{H H1 H2:Hp}(a:aF H H1)(b:aF H1 H2):aF H H2:=fun c o h=>b c o (a c o h)
theorem aF.free{H H':Hp}(e:aF H H'){l:Addr}(h:H' l=Option.none):H l=Option.none:=by
 cases q:H l with
 | none=>rfl
 | some o=>
  rw[e l o q] at h;cases h
section
variable{κ:Type}[DecidableEq κ]
def jC(kvs:List (κ×V))(k:κ):Option V:=(kvs.find? fun kv=>decide (kv.1=k)).map (·.2)
def putK(kvs:List (κ×V))(k:κ)(v:V):List (κ×V):=
 if(kvs.any fun kv=>decide (kv.1=k))=true then kvs.map (fun kv=>if kv.1=k then(kv.1,v) else kv) else kvs++[(k,v)]
theorem gQ{p:κ×V}{r:List (κ×V)}{k:κ}(e:p.1=k):jC (p::r) k=some p.2:=by simp[jC,List.find?_cons,e]
theorem gU{p:κ×V}{r:List (κ×V)}{k:κ}(e:¬p.1=k):jC (p::r) k=jC r k:=by simp[jC,List.find?_cons,e]
theorem rT(k:κ):∀kvs:List (κ×V),(kvs.any fun kv=>decide (kv.1=k))=(jC kvs k).isSome
 | []=>rfl
 | p::r=>by
  rw[List.any_cons];by_cases e:p.1=k
  ·simp only[gQ e,ju e,Bool.true_or,Option.isSome_some]
  ·rw[gU e,jL e,Bool.false_or]; exact rT k r
theorem IW(k j:κ)(y:V):∀kvs:List (κ×V),jC (kvs.map fun kv=>if kv.1=k then(kv.1,y) else kv) j=(jC kvs j).map fun x=>if j=k then y else x
 | []=>rfl
 | p::r=>by
  have ih:=IW k j y r;rw[oX];by_cases h:p.1=k
  ·rw[aL h];by_cases e:p.1=j
   ·rw[gQ (p:=(p.1,y)) e,gQ e,Dg,aL (e.symm.trans h)]
   ·rw[gU (p:=(p.1,y)) e,gU e,ih]
  ·rw[bD h];by_cases e:p.1=j
   ·rw[gQ (p:=p) e,gQ e,Dg,bD (fun z=>h (e.trans z))]
   ·rw[gU (p:=p) e,gU e,ih]
theorem BZ(k j:κ)(y:V):∀kvs:List (κ×V),jC kvs k=none->jC (kvs++[(k,y)]) j=if j=k then some y else jC kvs j
 | [],_=>by
  by_cases e:k=j
  ·rw[aL e.symm]; exact gQ (p:=(k,y)) e
  ·rw[bD (fun z=>e z.symm)]; exact gU (p:=(k,y)) e
 | p::r,hn=>by
  rw[P_];have hk:¬p.1=k:=fun z=>by rw[gQ z] at hn; cases hn
  rw[gU hk] at hn;have ih:=BZ k j y r hn;by_cases e:p.1=j
  ·rw[gQ e,gQ e,bD (fun z=>hk (e.trans z))]
  ·rw[gU e,gU e,ih]
theorem Vk(kvs:List (κ×V))(k j:κ)(y:V):jC (putK kvs k y) j=if j=k then some y else jC kvs j:=by
 unfold putK;by_cases a:(kvs.any fun kv=>decide (kv.1=k))=true
 ·rw[aL a,IW];rw[rT] at a;by_cases e:j=k
  ·obtain⟨x,hx⟩:=Bb.mp a;rw[aL e,e,hx,Dg,aL rfl]
  ·rw[bD e];cases jC kvs j with
   | none=>rfl
   | some x=>rw[Dg,bD e]
 ·rw[bD a];refine BZ k j y kvs ?_;rw[rT] at a;cases q:jC kvs k with
  | none=>rfl
  | some x=>rw[q] at a; exact(a rfl).elim
theorem Uy.Dz{o:Option V}{u:Option Value}(r:Uy o u):o.isSome=u.isSome:=by
 cases o with
 | none=>cases u with
  | none=>rfl
  | some _=>exact(show False from r).elim
 | some _=>cases u with
  | none=>exact(show False from r).elim
  | some _=>rfl
end
section
variable{P:Program}{w:World}{H:Hp}{h:Heap}{a:Addr}
end
section
variable{X:Cx}{ae:List (Addr×Obj)}{σ:St}{H:Hp}{s:Shared}{a:Addr}{y v:V}{u r:Value}{o:Option V}{A:Around}{E:Value->Shared->Prop}
theorem Inv.big(I:Inv X ae σ H s):sysModules<s.heap.objs.size:=by
 have h:mainGlobals<s.heap.objs.size:=(I.mod.glob.keeps I.bk).lt;exact JF ⋯ h
end
section
variable{X:Cx}{ae:List (Addr×Obj)}{σ:St}{H:Hp}{s:Shared}{a:Addr}{kvs:List (Key×V)}{k:Key}{u:Value}{A:Around}{E:Value->Shared->Prop}
end
section
variable{X:Cx}{o i e value:Expr}{pos pos' tpos:Pos}{td ty tv:TE}
end
section
variable{X:Cx}{pos:Pos}
end
structure M1(X:Cx)(o:Expr)(m:Str)(apos:Pos)(e:Expr)(cpos:Pos):Prop where
 base:attributeBase o m X.env (eval o X.env)=eval o X.env
 few:((backTo cpos (starEach [e] X.env)).all (fun x=>!x.1)&&(backToKw cpos (keywordEach [] X.env)).all (fun x=>x.1.isSome)
  && decide (([e]:List Expr).length+([]:List Keyword).length+(if([]:List Keyword).isEmpty then 0 else 1)<30))=true
 line:(apos.endLine==cpos.line)=true
 trees:backTo cpos (starEach [e] X.env)=[(false,eval e X.env)]
structure M2(X:Cx)(o:Expr)(m:Str)(apos:Pos)(e f:Expr)(cpos:Pos):Prop where
 base:attributeBase o m X.env (eval o X.env)=eval o X.env
 few:((backTo cpos (starEach [e,f] X.env)).all (fun x=>!x.1)&&(backToKw cpos (keywordEach [] X.env)).all (fun x=>x.1.isSome)
  && decide (([e,f]:List Expr).length+([]:List Keyword).length+(if([]:List Keyword).isEmpty then 0 else 1)<30))=true
 line:(apos.endLine==cpos.line)=true
 trees:backTo cpos (starEach [e,f] X.env)=[(false,eval e X.env),(false,eval f X.env)]
section
variable{X:Cx}{ae:List (Addr×Obj)}{σ:St}{H:Hp}{s:Shared}{a:Addr}{y d:V}{u r:Value}{o:Option V}{A:Around}{E:Value->Shared->Prop}
end
section
variable{X:Cx}{o e f:Expr}{apos cpos:Pos}{td ty tx:TE}
end
section
variable{X:Cx}{ae:List (Addr×Obj)}{σ:St}{H:Hp}{s:Shared}{a:Addr}{kvs:List (Key×V)}{A:Around}{E:Value->Shared->Prop}
end
section
variable{X:Cx}{ae:List (Addr×Obj)}{σ:St}{H:Hp}{s:Shared}{a:Addr}{y:V}{u:Value}{A:Around}{E:Value->Shared->Prop}
end
end L2
set_option maxHeartbeats 4000000
namespace L2
open PySem PySem.Spec PyProof.Rows
def km(env:Env)(cs:List (Str×Addr))(y:Str×NameKind):List (Str×Addr):=
 if y.2==.free then(match env.cells.lookup y.1 with | some c=>(y.1,c)::cs | none=>cs) else cs
def rJ(sc:Scope)(env:Env):List (Str×Addr):=sc.names.foldl (km env) []
theorem KR{env:Env}:∀(ns:List (Str×NameKind))(acc:List (Str×Addr)),(∀y c,acc.lookup y=some c->env.cells.lookup y=some c)->∀y c,(ns.foldl (km env) acc).lookup y=some c->env.cells.lookup y=some c
 | [],acc,h,y,c,e=>h y c e
 | n::ns,acc,h,y,c,e=>by
  refine KR ns (km env acc n) (fun z d q=>?_) y c e;unfold km at q;split at q
  ·split at q
   ·rename_i c' hc';rw[uQ] at q;split at q
    ·rename_i hz;have hz':z=n.1:=by simpa using hz
     cases q;rw[hz']; exact hc'
    ·exact h z d q
   ·exact h z d q
  ·exact h z d q
theorem jj{sc:Scope}{env:Env}{y:Str}{c:Addr}(e:(rJ sc env).lookup y=some c):env.cells.lookup y=some c:=
 KR sc.names [] (fun _ _ q=>by simp at q) y c e
theorem Rm{env:Env}{y:Str}{c:Addr}(hc:env.cells.lookup y=some c):∀(ns:List (Str×NameKind))(acc:List (Str×Addr)),acc.lookup y=some c->(ns.foldl (km env) acc).lookup y=some c
 | [],acc,h=>h
 | n::ns,acc,h=>by
  refine Rm hc ns (km env acc n) ?_;unfold km;split
  ·split
   ·rename_i c' hc';rw[uQ];split
    ·rename_i hz;have hz':y=n.1:=by simpa using hz
     rw[<- hz',hc] at hc';exact hc'.symm
    ·exact h
   ·exact h
  ·exact h
theorem Oo{env:Env}{y:Str}{c:Addr}(hc:env.cells.lookup y=some c):∀(ns:List (Str×NameKind))(acc:List (Str×Addr)),(y,NameKind.free)∈ns->(ns.foldl (km env) acc).lookup y=some c
 | [],_,h=>by simp at h
 | n::ns,acc,h=>by
  rcases bT.mp h with e | h
  ·subst e;refine Rm hc ns _ ?_;unfold km;simp[hc]
  ·exact Oo hc ns _ h
theorem vK{sc:Scope}{env:Env}{x:Str}{k':NameKind}(h:(relabel sc env).names.lookup x=some k'):∃k,(x,k)∈sc.names/\(k'=k\/(k=.free/\k'=.cell)):=by
 have m:=PySem.mem_of_lookup h;unfold relabel at m;obtain⟨⟨n,k⟩,hm,e⟩:=gW.mp m;dsimp only at e;split at e
 ·rename_i hc;injection e with e1 e2
  subst e1;refine⟨k,hm,.inr ⟨?_,e2.symm⟩⟩
  have:(k==NameKind.free)=true:=by
   cases hk:(k==NameKind.free) with
   | true=>rfl
   | false=>rw[hk] at hc; simp at hc
  exact beq_iff_eq.mp this
 ·injection e with e1 e2
  subst e1 e2;exact⟨k,hm,.inl rfl⟩
theorem sY{env:Env}{x:Str}(hf:env.scope.kind=.function)(hk:env.kindOf x=some .cell):∀(ns:List (Str×NameKind)),ns.lookup x=some .free ->
  (ns.map fun(y:Str×NameKind)=>if(y.2==.free&&env.scope.kind==.function&&env.kindOf y.1==some .cell) then(y.1,NameKind.cell) else(y.1,y.2)).lookup x=some .cell
 | [],h=>by simp at h
 | (n,k)::r,h=>by
  have ih:=sY hf hk r;rw[oX];cases hx:x==n with
  | true=>
   have e:x=n:=by simpa using hx
   subst e;simp only[uQ,beq_self_eq_true] at h;cases h;dsimp only;rw[aL (by simp[hf,hk])]
   simp[uQ]
  | false=>
   simp only[uQ,hx] at h;dsimp only;split
   ·simp only[uQ,hx]; exact ih h
   ·simp only[uQ,hx]; exact ih h
def rG(X:Cx)(N':List Str)(sc:Scope)(fp:List Addr)(s:Shared)(H:Hp):Cx where
 prog:=X.prog
 w:=X.w
 K:=X.K
 mg:=X.mg
 base:=X.base
 A:=X.A
 N:=N'
 s₀:=s
 H₀:=H
 env:=compEnvC sc (rJ sc X.env) s.heap.objs.size X.env
 outer:=X.stack
 stack:=X.stack
 ex:=fp
 fn:=fun _=>false
 calm:=X.calm
 pn:=[]
 xe:=fun _ _=>False
structure Lg(X:Cx)(N':List Str)(js:List Nat)(sc:Scope):Prop where
 kind:sc.kind=.function
 jg:∀y∈sc.names,y.2≠.cell
 names:∀y∈sc.names,y.2=.local->sc.names.lookup y.1=some .local
 clos:closureFor sc X.env=pure (rJ sc X.env)
 all:(sc.names.all fun y=>y.2 != .free || (X.env.cells.lookup y.1).isSome)=true
 len:N'.length=js.length+1
 cap:∀(i j:Nat),js[i]?=some j->N'[i+1]?=X.N[j]?
 Yo:∀y∈N'.tail,X.env.kindOf y=some .cell/\sc.names.lookup y=some .free
def cg(js:List Nat)(σ:St):St:=js.map fun j=>(σ[j]?).join
def jr(js:List Nat)(wi:TI)(te:TE):TE:=fun σ H Q=>wi σ H fun J H1=>∀acc,H1 acc=none->∃W:Nat->Nat->List V->Hp->Prop,(∃m,W 0 m [] (upd H1 acc (.lst [])))/\∀i m ys H2,W i m ys H2 ->
 (J.stop i H2/\Q (.ref acc) H2)\/(J.go i H2/\∀x H3,J.xj i H2 x H3->te (some x::cg js σ) H3 fun y H4=>H4 acc=some (.lst ys)/\ys.length<sizeLine/\∃m',m'<m/\W (i+1) m' (ys++[y]) (upd H4 acc (.lst (ys++[y]))))
def Hb:Key->PyData
 | .inl i=>.int i
 | .inr x=>.str x
mutual
def At(H:Hp):PyData->V->Prop
 | .none,v=>v=.non
 | .bool b,v=>v=.bl b
 | .int i,v=>v=.int i
 | .str x,v=>v=.str x
 | .tuple ds,v=>∃a xs,v=.ref a/\H a=some (.tup xs)/\ak H ds xs
 | .list ds,v=>∃a xs,v=.ref a/\H a=some (.lst xs)/\ak H ds xs
 | .dict kvs,v=>∃a es,v=.ref a/\H a=some (.dK es)/\Ib H kvs es
def ak(H:Hp):List PyData->List V->Prop
 | [],xs=>xs=[]
 | d::ds,xs=>∃x r,xs=x::r/\At H d x/\ak H ds r
def Ib(H:Hp):List (PyData×PyData)->List (Key×V)->Prop
 | [],es=>es=[]
 | (k,d)::r,es=>∃q v t,es=(q,v)::t/\k=Hb q/\At H d v/\Ib H r t
end
mutual
theorem At.mono{H H':Hp}(m:aF H H'):∀(d:PyData)(v:V),At H d v->At H' d v
 | .none,_,h=>by unfold At at h ⊢; exact h
 | .bool _,_,h=>by unfold At at h ⊢; exact h
 | .int _,_,h=>by unfold At at h ⊢; exact h
 | .str _,_,h=>by unfold At at h ⊢; exact h
 | .tuple ds,v,h=>by
  unfold At at h ⊢;obtain⟨a,xs,e,h1,h2⟩:=h;exact⟨a,xs,e,m _ _ h1,ak.mono m ds xs h2⟩
 | .list ds,v,h=>by
  unfold At at h ⊢;obtain⟨a,xs,e,h1,h2⟩:=h;exact⟨a,xs,e,m _ _ h1,ak.mono m ds xs h2⟩
 | .dict kvs,v,h=>by
  unfold At at h ⊢;obtain⟨a,es,e,h1,h2⟩:=h;exact⟨a,es,e,m _ _ h1,Ib.mono m kvs es h2⟩
theorem ak.mono{H H':Hp}(m:aF H H'):∀(ds:List PyData)(xs:List V),ak H ds xs->ak H' ds xs
 | [],_,h=>by unfold ak at h ⊢; exact h
 | d::ds,xs,h=>by
  unfold ak at h ⊢;obtain⟨x,r,e,h1,h2⟩:=h;exact⟨x,r,e,At.mono m d x h1,ak.mono m ds r h2⟩
theorem Ib.mono{H H':Hp}(m:aF H H'):∀(kvs:List (PyData×PyData))(es:List (Key×V)),Ib H kvs es->Ib H' kvs es
 | [],_,h=>by unfold Ib at h ⊢; exact h
 | (k,d)::r,es,h=>by
  unfold Ib at h ⊢;obtain⟨q,v,t,e,e',h1,h2⟩:=h;exact⟨q,v,t,e,e',At.mono m d v h1,Ib.mono m r t h2⟩
end
theorem ak.length{H:Hp}:∀{ds:List PyData}{xs:List V},ak H ds xs->xs.length=ds.length
 | [],xs,h=>by unfold ak at h; rw[h]; rfl
 | d::ds,xs,h=>by
  unfold ak at h;obtain⟨x,r,e,_,h2⟩:=h;rw[e,jU,jU,ak.length h2]
theorem ak.get{H:Hp}:∀{ds:List PyData}{xs:List V}{i:Nat}{x:V},ak H ds xs->xs[i]?=some x->∃d,ds[i]?=some d/\At H d x
 | [],xs,i,x,h,e=>by unfold ak at h; rw[h] at e; simp at e
 | d::ds,xs,i,x,h,e=>by
  unfold ak at h;obtain⟨y,r,e1,h1,h2⟩:=h;subst e1;cases i with
  | zero=>simp at e; subst e; exact⟨d,rfl,h1⟩
  | succ i=>
   obtain⟨d',q1,q2⟩:=ak.get (i:=i) (x:=x) h2 (by simpa using e)
   exact⟨d',by simpa using q1,q2⟩
theorem ak.getD{H:Hp}:∀{ds:List PyData}{xs:List V}{i:Nat}{d:PyData},ak H ds xs->ds[i]?=some d->∃x,xs[i]?=some x/\At H d x
 | [],xs,i,d,h,e=>by simp at e
 | d'::ds,xs,i,d,h,e=>by
  unfold ak at h;obtain⟨y,r,e1,h1,h2⟩:=h;subst e1;cases i with
  | zero=>simp at e; subst e; exact⟨y,rfl,h1⟩
  | succ i=>
   obtain⟨x,q1,q2⟩:=ak.getD (i:=i) (d:=d) h2 (by simpa using e)
   exact⟨x,by simpa using q1,q2⟩
theorem ak.append{H:Hp}:∀{ds es:List PyData}{xs ys:List V},ak H ds xs->ak H es ys->ak H (ds++es) (xs++ys)
 | [],es,xs,ys,h,q=>by unfold ak at h; subst h; exact q
 | d::ds,es,xs,ys,h,q=>by
  unfold ak at h;obtain⟨x,r,e,h1,h2⟩:=h;subst e;show ak H (d::(ds++es)) (x::(r++ys));unfold ak;exact⟨x,r++ys,rfl,h1,ak.append h2 q⟩
theorem ak.take{H:Hp}:∀{ds:List PyData}{xs:List V}(n:Nat),ak H ds xs->ak H (ds.take n) (xs.take n)
 | ds,xs,0,h=>by simp[ak]
 | [],xs,n+1,h=>by unfold ak at h; subst h; simp[ak]
 | d::ds,xs,n+1,h=>by
  unfold ak at h;obtain⟨x,r,e,h1,h2⟩:=h;subst e;show ak H (d::ds.take n) (x::r.take n);unfold ak;exact⟨x,_,rfl,h1,ak.take n h2⟩
theorem ak.nil{H:Hp}:ak H [] []:=by unfold ak; rfl
theorem ak.cons{H:Hp}{d:PyData}{ds:List PyData}{x:V}{xs:List V}(h1:At H d x)(h2:ak H ds xs):ak H (d::ds) (x::xs):=by
 unfold ak; exact⟨x,xs,rfl,h1,h2⟩
theorem At.tup{H:Hp}{a:Addr}{xs:List V}{ds:List PyData}(h:H a=some (.tup xs))(q:ak H ds xs):At H (.tuple ds) (.ref a):=by
 unfold At; exact⟨a,xs,rfl,h,q⟩
theorem At.lst{H:Hp}{a:Addr}{xs:List V}{ds:List PyData}(h:H a=some (.lst xs))(q:ak H ds xs):At H (.list ds) (.ref a):=by
 unfold At; exact⟨a,xs,rfl,h,q⟩
theorem At.int{H:Hp}(i:Int):At H (.int i) (.int i):=by unfold At; rfl
theorem At.str{H:Hp}(x:Str):At H (.str x) (.str x):=by unfold At; rfl
theorem At.bool{H:Hp}(b:Bool):At H (.bool b) (.bl b):=by unfold At; rfl
theorem At.non{H:Hp}:At H .none .non:=by unfold At; rfl
theorem aM{H:Hp}{p:Addr}(h:H p=none)(o:HO):aF H (upd H p o):=fun b u q=>by rw[aP (bV q h)]; exact q
def UL:PyData->String
 | .none=>"NoneType"
 | .bool _=>"bool"
 | .int _=>"int"
 | .str _=>"str"
 | .tuple _=>"tuple"
 | .list _=>"list"
 | .dict _=>"dict"
theorem At.ty{K:Frag}{H:Hp}{d:PyData}{v:V}(h:At H d v):qy K H v (.type (UL d)):=by
 cases d with
 | none=>unfold At at h; subst h; exact .non
 | bool b=>unfold At at h; subst h; exact .bl b
 | int i=>unfold At at h; subst h; exact .int i
 | str x=>unfold At at h; subst h; exact .str x
 | tuple ds=>unfold At at h; obtain⟨a,xs,e,h1,_⟩:=h; subst e; exact .tup h1
 | list ds=>unfold At at h; obtain⟨a,xs,e,h1,_⟩:=h; subst e; exact .lst h1
 | dict ds=>unfold At at h; obtain⟨a,xs,e,h1,_⟩:=h; subst e; exact .dK h1
def isInt:PyData->Bool
 | .int _=>true
 | .bool _=>true
 | _=>false
def isTup:PyData->Bool
 | .tuple _=>true
 | _=>false
def isBool:PyData->Bool
 | .bool _=>true
 | _=>false
def isStr:PyData->Bool
 | .str _=>true
 | _=>false
theorem aao(K:Frag)(d:PyData):kitOne K (.type (UL d)) (.type "int")=some (isInt d):=by cases d <;> kernel_rfl
theorem QT(K:Frag)(d:PyData):kitOne K (.type (UL d)) (.type "tuple")=some (isTup d):=by cases d <;> kernel_rfl
theorem Xm(K:Frag)(d:PyData):kitOne K (.type (UL d)) (.type "bool")=some (isBool d):=by cases d <;> kernel_rfl
theorem aan(K:Frag)(d:PyData):kitOne K (.type (UL d)) (.type "str")=some (isStr d):=by cases d <;> kernel_rfl
section
variable{X:Cx}
def Ms(T:String)(f:PyData->Bool):List V->Hp->VK->Prop:=fun vs H Q=>∃v d,vs=[v,.ty T]/\At H d v/\Q (.bl (f d)) H
theorem zr{T:String}{f:PyData->Bool}(hf:∀K d,kitOne K (.type (UL d)) (.type T)=some (f d)):cZ X (.builtin "isinstance") (Ms T f):=by
 symm;intro vs us Q I r h;obtain⟨v,d,rfl,hv,q⟩:=h;obtain⟨u,t,rfl,ru,rt⟩:=r.two;cases(show t=Value.type T from rt);exact Dy I ru (hv.ty (K:=X.K)) (hf X.K d) fun tk=>⟨.bl (f d),H,I.tok tk,rfl,q⟩
theorem aar:cZ X (.builtin "isinstance") (Ms "int" isInt):=zr aao
theorem Q0:cZ X (.builtin "isinstance") (Ms "tuple" isTup):=zr QT
theorem Xv:cZ X (.builtin "isinstance") (Ms "bool" isBool):=zr Xm
theorem wX:cZ X (.builtin "isinstance") (Ms "str" isStr):=zr aan
theorem Fw:∀{bs:List Bool}{us:List Value},Vals (bs.map V.bl) us->us=bs.map Value.bool
 | [],_,.nil=>rfl
 | b::bs,_,.cons r t=>by
  cases(show _=Value.bool b from r);rw[Fw t]; rfl
theorem range_all(bs:List Bool):(List.range bs.length).all (fun i=>bs.getD i false)=bs.all id:=by
 rw[De,yw,yw];constructor
 ·intro h b hb;obtain⟨i,hi,rfl⟩:=List.mem_iff_getElem.mp hb;have:=h i (qU.mpr hi);simpa[fD,hi] using this
 ·intro h i hi;have hi':=qU.mp hi;have:=h bs[i] (Gh hi');simpa[fD,hi'] using this
theorem range_any(bs:List Bool):(List.range bs.length).any (fun i=>bs.getD i false)=bs.any id:=by
 rw[De,List.any_eq_true,List.any_eq_true];constructor
 ·rintro⟨i,hi,h⟩;have hi':=qU.mp hi;exact⟨bs[i],Gh hi',by simpa[fD,hi'] using h⟩
 ·rintro⟨b,hb,h⟩;obtain⟨i,hi,rfl⟩:=List.mem_iff_getElem.mp hb;exact⟨i,qU.mpr hi,by simpa[fD,hi] using h⟩
theorem Uj(hc:X.calm=true):cZ X (.builtin "all") (fun vs H Q=>∃(p:Addr)(bs:List Bool),vs=[.ref p]/\H p=some (.lst (bs.map V.bl))/\Q (.bl (bs.all id)) H):=by
 symm;intro vs us Q I r h;obtain⟨p,bs,rfl,hp,q⟩:=h;obtain⟨u,rfl,ru⟩:=r.one;cases ru;obtain⟨z,its,n,rv,e⟩:=I.hok p _ hp;have e2:=Fw rv;subst e2;have hl:s.heap.IsList p (bs.map Value.bool).toArray:=⟨_,e,rfl,n,rfl⟩;have lt:p<s.heap.objs.size:=cI e;refine call_all_walk (Ay hl ?_);refine⟨_,_,_,_,_,_,fun i=>bs.getD i false,rfl,Walks.list (A:=X.A.in1) (I.ok.hd hc) _ p (gB lt) _,⟨⟨_,dF _ rfl,rfl,rfl⟩,hl.push _⟩,fun i v s' Q' E' hv hq=>?_,fun h' tk hk=>?_⟩
 ·have hv':(bs.map Value.bool).toArray[i]?=some v:=hv
  have:v=.bool (bs.getD i false):=by
   simp only[R8,g_] at hv';cases q:bs[i]? with
   | none=>rw[q] at hv'; simp at hv'
   | some b=>rw[q] at hv'; simp at hv'; simp[fD,q,<- hv']
  rw[this];exact Gj hq
 ·have e3:(List.range (bs.map Value.bool).toArray.size).all (fun i=>bs.getD i false)=bs.all id:=by
   rw[gq,bW]; exact range_all bs
  refine⟨.bl (bs.all id),H,I.kept (t':=tk) (fun b o eb=>?_),by rw[<- e3]; rfl,q⟩
  exact hk b o (by simpa using gB (cI eb)) (dJ _ eb)
theorem Ui(hc:X.calm=true):cZ X (.builtin "any") (fun vs H Q=>∃(p:Addr)(bs:List Bool),vs=[.ref p]/\H p=some (.lst (bs.map V.bl))/\Q (.bl (bs.any id)) H):=by
 symm;intro vs us Q I r h;obtain⟨p,bs,rfl,hp,q⟩:=h;obtain⟨u,rfl,ru⟩:=r.one;cases ru;obtain⟨z,its,n,rv,e⟩:=I.hok p _ hp;have e2:=Fw rv;subst e2;have hl:s.heap.IsList p (bs.map Value.bool).toArray:=⟨_,e,rfl,n,rfl⟩;have lt:p<s.heap.objs.size:=cI e;refine call_any_walk (Ay hl ?_);refine⟨_,_,_,_,_,_,fun i=>bs.getD i false,rfl,Walks.list (A:=X.A.in1) (I.ok.hd hc) _ p (gB lt) _,⟨⟨_,dF _ rfl,rfl,rfl⟩,hl.push _⟩,fun i v s' Q' E' hv hq=>?_,fun h' tk hk=>?_⟩
 ·have hv':(bs.map Value.bool).toArray[i]?=some v:=hv
  have:v=.bool (bs.getD i false):=by
   simp only[R8,g_] at hv';cases q:bs[i]? with
   | none=>rw[q] at hv'; simp at hv'
   | some b=>rw[q] at hv'; simp at hv'; simp[fD,q,<- hv']
  rw[this];exact Gj hq
 ·have e3:(List.range (bs.map Value.bool).toArray.size).any (fun i=>bs.getD i false)=bs.any id:=by
   rw[gq,bW]; exact range_any bs
  refine⟨.bl (bs.any id),H,I.kept (t':=tk) (fun b o eb=>?_),by rw[<- e3]; rfl,q⟩
  exact hk b o (by simpa using gB (cI eb)) (dJ _ eb)
theorem J8:∀(ns:List Int),preSum (fun i=>ns.getD i 0) ns.length=ns.sum:=by
 have key:∀(ns:List Int)(k:Nat),k<=ns.length->preSum (fun i=>ns.getD i 0) k=(ns.take k).sum:=by
  intro ns k
  induction k with
  | zero=>intro _; rfl
  | succ k ih=>
   intro hk
   have e:ns.take (k+1)=ns.take k++[ns.getD k 0]:=by
    rw[Ge,gm ∅]
    simp[fD,gm (show k<ns.length by omega)]
   show preSum _ k+ns.getD k 0=_;rw[ih ∅,e,List.sum_append]
   simp
 intro ns;rw[key ns ns.length (dM _),mY]
theorem Q4{ns:List Int}{its:List Value}(r:Vals (ns.map V.int) its){i:Nat}{v:Value}(h:its.toArray[i]?=some v):∃t,v=.int (ns.getD i 0) t:=by
 have h':its[i]?=some v:=by simpa using h
 have hi:i<its.length:=(gC.mp h').1;have hl:=r.length;rw[bW] at hl;obtain⟨u,hu,ru⟩:=r.get (i:=i) (x:=V.int (ns[i]'∅)) (by rw[g_,gm ∅]; rfl)
 rw[h'] at hu;cases hu;obtain⟨t,e⟩:=ru;exact⟨t,by rw[e,fD,gm ∅]; rfl⟩
theorem qj(hc:X.calm=true):cZ X (.builtin "sum") (fun vs H Q=>∃(p:Addr)(ns:List Int),vs=[.ref p]/\(H p=some (.lst (ns.map V.int))\/H p=some (.tup (ns.map V.int)))/\Q (.int ns.sum) H):=by
 symm;intro vs us Q I r h;obtain⟨p,ns,rfl,hp,q⟩:=h;obtain⟨u,rfl,ru⟩:=r.one;cases ru
 have fin:∀{h':Heap}{tk:Nat}{t':Tok}{o:Obj},(∀b o',b∉[s.heap.objs.size]->(s.heap.push o).get? b=some o'->h'.get? b=some o')->EP X ae σ Q (.int (preSum (fun i=>ns.getD i 0) ns.length) t') { s with heap:=h',toks:=tk }:=fun {h' tk t' o} hk=>
  ⟨.int ns.sum,H,I.kept (t':=tk) (fun b o' eb=>hk b o' (by simpa using gB (cI eb)) (dJ _ eb)),⟨t',by rw[J8]⟩,q⟩
 rcases hp with hp | hp
 ·obtain⟨z,its,n,rv,e⟩:=I.hok p _ hp;have hl:s.heap.IsList p its.toArray:=⟨_,e,rfl,n,rfl⟩;have lt:p<s.heap.objs.size:=cI e;have hlen:=rv.length;rw[bW] at hlen;refine call_sum_walkG (Ay hl ?_);refine⟨_,_,_,_,_,_,fun i=>ns.getD i 0,rfl,Walks.list (A:=X.A.in1) (I.ok.hd hc) _ p (gB lt) _,⟨⟨_,dF _ rfl,rfl,rfl⟩,hl.push _⟩,fun b hb=>?_,fun i v hv=>Q4 rv hv,fun h' tk t' hk=>?_⟩
  ·show b<(s.heap.push _).objs.size;rw[iQ];rcases bT.mp hb with rfl | hb
   ·exact JR _
   ·rw[fP.mp hb]; exact Dl lt
  ·rw[gq,<- hlen]; exact fin hk
 ·obtain⟨z,its,rv,ht⟩:=I.hok p _ hp;have ht':s.heap.IsTuple p its.toArray:=ht;have lt:p<s.heap.objs.size:=by obtain⟨o,e,_⟩:=ht; exact cI e
  have hlen:=rv.length;rw[bW] at hlen;refine call_sum_walkG (Jx ht' ?_);refine⟨_,_,_,_,_,_,fun i=>ns.getD i 0,rfl,Walks.tuple (A:=X.A.in1) (I.ok.hd hc) _ p (gB lt) _,⟨⟨_,dF _ rfl,rfl,rfl⟩,?_⟩,fun b hb=>?_,fun i v hv=>Q4 rv hv,fun h' tk t' hk=>?_⟩
  ·obtain⟨o,e,c⟩:=ht';exact⟨o,dJ _ e,c⟩
  ·show b<(s.heap.push _).objs.size;rw[iQ];rcases bT.mp hb with rfl | hb
   ·exact JR _
   ·rw[fP.mp hb]; exact Dl lt
  ·rw[gq,<- hlen]; exact fin hk
theorem mG:cZ X (.type "int") (fun vs H Q=>∃(b:Bool),vs=[.bl b]/\Q (.int (if b then 1 else 0)) H):=by
 symm;intro vs us Q I r h;obtain⟨b,rfl,q⟩:=h;obtain⟨u,rfl,ru⟩:=r.one;cases(show u=Value.bool b from ru);exact call_int_bool ⟨.int (if b then 1 else 0),H,I.tok _,⟨_,rfl⟩,q⟩
end
mutual
theorem l_{P:Program}{w:World}{H:Hp}{h:Heap}(ok:mL P w H h):∀(d:PyData)(v:V)(u:Value),At H d v->RelV v u->d.hasDict=false->∃as,Reads h u d as
 | .none,v,u,a,r,_=>by unfold At at a; subst a; cases r; exact⟨_,.none⟩
 | .bool b,v,u,a,r,_=>by unfold At at a; subst a; cases r; exact⟨_,.bool b⟩
 | .int i,v,u,a,r,_=>by unfold At at a; subst a; obtain⟨t,rfl⟩:=r; exact⟨_,.int i t⟩
 | .str x,v,u,a,r,_=>by unfold At at a; subst a; obtain⟨t,rfl⟩:=r; exact⟨_,.str x t⟩
 | .tuple ds,v,u,a,r,nd=>by
  unfold At at a;obtain⟨p,xs,e,hp,ha⟩:=a;subst e;cases r;obtain⟨_,its,rv,o,e1,e2,n,e3⟩:=ok p _ hp;obtain⟨as,ra⟩:=uN ok ds xs its ha rv (by simpa[PyData.hasDict] using nd)
  exact⟨_,.tuple e1 e2 e3 (by simpa using ra)⟩
 | .list ds,v,u,a,r,nd=>by
  unfold At at a;obtain⟨p,xs,e,hp,ha⟩:=a;subst e;cases r;obtain⟨_,its,n,rv,e1⟩:=ok p _ hp;obtain⟨as,ra⟩:=uN ok ds xs its ha rv (by simpa[PyData.hasDict] using nd)
  exact⟨_,.list e1 rfl rfl (by simpa using ra)⟩
 | .dict kvs,v,u,a,r,nd=>by simp[PyData.hasDict] at nd
theorem uN{P:Program}{w:World}{H:Hp}{h:Heap}(ok:mL P w H h):∀(ds:List PyData)(xs:List V)(us:List Value),ak H ds xs->Vals xs us->PyData.hasDictAll ds=false->∃as,ReadsAll h us ds as
 | [],xs,us,a,r,_=>by unfold ak at a; subst a; cases r; exact⟨_,.nil⟩
 | d::ds,xs,us,a,r,nd=>by
  unfold ak at a;obtain⟨x,t,e,h1,h2⟩:=a;subst e;have nd':d.hasDict=false/\PyData.hasDictAll ds=false:=by simpa[PyData.hasDictAll] using nd
  cases r with
  | cons r1 r2=>
   obtain⟨as,q1⟩:=l_ ok d x _ h1 r1 nd'.1;obtain⟨bs,q2⟩:=uN ok ds t _ h2 r2 nd'.2;exact⟨_,.cons q1 q2⟩
end
structure aj4(d:PyData):Prop where
 can:d.showable=true
 nod:d.hasDict=false
 len:d.shown.length<=sizeLine
 dep:d.depth<=60
section
variable{X:Cx}
def Gi(mg:Str->Option Value)(x:Str)(i:Int):Prop:=∃t,mg x=some (.int i t)
theorem My{x:Str}{i:Int}{pos:Pos}(h:Gi X.mg x i)(hg:Gl X x:=by rfl)(hd:(x==("__debug__" : Str))=false:=by decide):PE X (.Name x pos) (tC (.int i)):=by
 obtain⟨t,ht⟩:=h;exact gD hg ht ⟨t,rfl⟩ hd
structure Ct(P:Program)(w:World)(K:Frag)(mg:Str->Option Value)(base:Heap)(k:Nat)(x:Str)(ps:List Str)(sp:Sp) where
 f:Addr
 fd:FuncData
 G:bZ P w K mg base iJ k f fd ps sp
 kp:keepIn K (.ref f)=true
 b:Binds K fd ps []
 m:mg x=some (.ref f)
def Ct.mono{P:Program}{w:World}{K:Frag}{mg:Str->Option Value}{base:Heap}{j k:Nat}{x:Str}{ps:List Str}{sp:Sp}(c:Ct P w K mg base j x ps sp)(h:j<=k):Ct P w K mg base k x ps sp:={ c with G:=c.G.mono h }
theorem aeI{k:Nat}{x:Str}{ps:List Str}{sp:Sp}{e:Expr}{es:List Expr}{t:TA}{p pos:Pos}(c:Ct X.prog X.w X.K X.mg X.base k x ps sp)(hr:jm k X.A)(ha:PA X (e::es) t)(hg:Gl X x:=by rfl)
  (hdb:(x==("__debug__" : Str))=false:=by decide) (he:starEach (e::es) X.env=(false,eval e X.env)::starEach es X.env:=by rfl) (hpl:(backTo pos (starEach es X.env)).any (·.1)=false:=by rfl) :
  PE X (.Call (.Name x p) (e::es) [] pos) (rY sp [] E0 t):=Qx c.G hr hg c.m c.kp c.b .nil abi ha hdb he hpl
end
theorem Zu{v:V}{σ:St}{H:Hp}{Q:VK}:xx 0 (some v::σ) H Q=Q v H:=rfl
theorem Zt{i:Nat}{o:Option V}{σ:St}{H:Hp}{Q:VK}:xx (i+1) (o::σ) H Q=xx i σ H Q:=rfl
theorem Zx{v:V}{o:Option V}{σ:St}:(o::σ).set 0 (some v)=some v::σ:=rfl
theorem Zw{i:Nat}{v:V}{o:Option V}{σ:St}:(o::σ).set (i+1) (some v)=o::σ.set i (some v):=rfl
theorem Wa{t:TG}{u:Yw}{v:V}{r:List V}{σ:St}{H:Hp}{Q:St->Hp->Prop}:mC t u (v::r) σ H Q=t v σ H fun σ' H'=>u r σ' H' Q:=rfl
theorem Zy{σ:St}{H:Hp}{Q:St->Hp->Prop}:Hh [] σ H Q=Q σ H:=rfl
theorem fj{b:Bool}{A B:Prop}(h1:b=true->A)(h2:b=false->B):if b=true then A else B:=by
 cases b
 ·rw[bD ⋯]; exact h2 rfl
 ·rw[aL rfl]; exact h1 rfl
theorem aca{i j:Int}{H:Hp}{Q:VK}:rEq (.int i) (.int j) H Q=Q (.bl (decide (i=j))) H:=by
 unfold rEq R0; simp
theorem ab9{i j:Int}{H:Hp}{Q:VK}:rNe (.int i) (.int j) H Q=Q (.bl (!decide (i=j))) H:=by
 unfold rNe R0; simp
theorem F_{i j:Str}{H:Hp}{Q:VK}:rEq (.str i) (.str j) H Q=Q (.bl (decide (i=j))) H:=by
 unfold rEq R0; simp
theorem ab8{i j:Str}{H:Hp}{Q:VK}:rNe (.str i) (.str j) H Q=Q (.bl (!decide (i=j))) H:=by
 unfold rNe R0; simp
theorem Zz{i:Int}{P:Int->Prop}:(∃k,[V.int i]=[V.int k]/\P k)=P i:=by
 simp
theorem ZC{i:Bool}{P:Bool->Prop}:(∃k,[V.bl i]=[V.bl k]/\P k)=P i:=by
 simp
theorem Wb{i j:Int}{P:Int->Int->Prop}:(∃a b,[V.int i,V.int j]=[V.int a,V.int b]/\P a b)=P i j:=by
 refine propext ⟨?_,fun h=>⟨i,j,rfl,h⟩⟩;rintro⟨a,b,e,h⟩;cases e;exact h
theorem Zv{b:Bool}{P:Bool->Prop}:(∃k,V.bl b=V.bl k/\P k)=P b:=by
 simp
theorem ab_{i:Int}{P:Int->Prop}:(∃k,V.int i=V.int k/\P k)=P i:=by
 simp
theorem aev{i j:Int}{P:Int->Int->Prop}:(∃a b,V.int i=V.int a/\V.int j=V.int b/\P a b)=P i j:=by
 simp
theorem vR{α β:Type}{g:β->α->β}{f:α->β->Sem (ForInStep β)}:∀(l:List α)(c:β),(∀x∈l,∀c,f x c=pure (.yield (g c x)))->forIn l c f=(pure (l.foldl g c):Sem β)
 | [],c,_=>rfl
 | x::l,c,h=>by
  rw[Df,h x jw c,pure_bind];exact vR l (g c x) fun y hy=>h y (iR _ hy)
theorem nC{sc:Scope}{env:Env}(h:(sc.names.all fun y=>y.2 != .free || (env.cells.lookup y.1).isSome)=true):closureFor sc env=pure (rJ sc env):=by
 unfold closureFor rJ;dsimp only;rw[vR (g:=km env) sc.names [] (fun y hy c=>?_)]
 ·rfl
 obtain⟨n,k⟩:=y;have a:=yw.mp h _ hy;dsimp only;unfold km;dsimp only;cases hk:(k==NameKind.free) with
 | false=>simp
 | true=>
  have hk':k=.free:=beq_iff_eq.mp hk;subst hk';have a':(env.cells.lookup n).isSome=true:=by simpa using a
  obtain⟨c',hc'⟩:=Bb.mp a';simp[cellOf,hc']
theorem tQ{sc:Scope}(h:(sc.names.all fun y=>y.2 != .local || sc.names.lookup y.1==some .local)=true):∀y∈sc.names,y.2=.local->sc.names.lookup y.1=some .local:=fun y hy e=>by
 have a:=yw.mp h y hy;rw[e] at a;simpa using a
theorem Lg.mk0{X:Cx}{x:Str}{sc:Scope}(k:sc.kind=.function:=by rfl)(n:(sc.names.all fun y=>y.2 != .cell&&y.2 != .free)=true:=by decide +kernel)(l:(sc.names.all fun y=>y.2 != .local || sc.names.lookup y.1==some .local)=true:=by decide +kernel):Lg X [x] [] sc:=by
 have n':∀y∈sc.names,y.2≠.cell/\y.2≠.free:=fun y hy=>by have:=yw.mp n y hy; simpa using this
 have al:(sc.names.all fun y=>y.2 != .free || (X.env.cells.lookup y.1).isSome)=true:=yw.mpr fun y hy=>by simp[(n' y hy).2]
 exact⟨k,fun y hy=>(n' y hy).1,tQ l,nC al,al,rfl,fun i j h=>by simp at h,fun y h=>by simp at h⟩
theorem Lg.mk1{X:Cx}{x y:Str}{sc:Scope}{j:Nat}(hj:X.N[j]?=some y:=by rfl)(k:sc.kind=.function:=by rfl)(n:(sc.names.all fun y=>y.2 != .cell)=true:=by decide +kernel)
  (l:(sc.names.all fun y=>y.2 != .local || sc.names.lookup y.1==some .local)=true:=by decide +kernel) (al:(sc.names.all fun y=>y.2 != .free || (X.env.cells.lookup y.1).isSome)=true:=by rfl)
  (k1:X.env.kindOf y=some .cell:=by rfl) (k2:sc.names.lookup y=some .free:=by rfl):Lg X [x,y] [j] sc:=by
 have n':∀y∈sc.names,y.2≠.cell:=fun y hy=>by have:=yw.mp n y hy; simpa using this
 refine⟨k,n',tQ l,nC al,al,rfl,fun i j' h=>?_,fun z h=>?_⟩
 ·cases i with
  | zero=>simp at h; subst h; exact hj.symm
  | succ i=>simp at h
 ·have e:z=y:=by simpa using h
  subst e; exact⟨k1,k2⟩
theorem Lg.mk2{X:Cx}{x y z:Str}{sc:Scope}{j j2:Nat}(hj:X.N[j]?=some y:=by rfl)(hj2:X.N[j2]?=some z:=by rfl)(k:sc.kind=.function:=by rfl)(n:(sc.names.all fun y=>y.2 != .cell)=true:=by decide +kernel)
  (l:(sc.names.all fun y=>y.2 != .local || sc.names.lookup y.1==some .local)=true:=by decide +kernel) (al:(sc.names.all fun y=>y.2 != .free || (X.env.cells.lookup y.1).isSome)=true:=by rfl)
  (k1:X.env.kindOf y=some .cell:=by rfl) (k2:sc.names.lookup y=some .free:=by rfl) (k3:X.env.kindOf z=some .cell:=by rfl) (k4:sc.names.lookup z=some .free:=by rfl):Lg X [x,y,z] [j,j2] sc:=by
 have n':∀y∈sc.names,y.2≠.cell:=fun y hy=>by have:=yw.mp n y hy; simpa using this
 refine⟨k,n',tQ l,nC al,al,rfl,fun i j' h=>?_,fun v h=>?_⟩
 ·match i,h with
  | 0,h=>simp at h; subst h; exact hj.symm
  | 1,h=>simp at h; subst h; exact hj2.symm
  | i+2,h=>simp at h
 ·have e:v=y\/v=z:=by simpa using h
  rcases e with e | e
  ·subst e; exact⟨k1,k2⟩
  ·subst e; exact⟨k3,k4⟩
def cF:Expr->Bool
 | .Starred _ _=>false
 | _=>true
theorem cW{env:Env}{e:Expr}{es:List Expr}(h:cF e=true):starEach (e::es) env=(false,eval e env)::starEach es env:=by
 cases e <;> first | rfl | exact absurd h (by simp[cF])
theorem cU{env:Env}{pos:Pos}:∀{es:List Expr},es.all cF=true->(backTo pos (starEach es env)).any (·.1)=false
 | [],_=>rfl
 | e::es,h=>by
  have h':cF e=true/\es.all cF=true:=by simpa using h
  rw[cW h'.1];show(false || (backTo pos (starEach es env)).any (·.1))=false;rw[cU h'.2]; rfl
section
variable{X:Cx}{x:Str}{p pos:Pos}{e:Expr}{es:List Expr}{te:TE}{t:TA}{id T:String}{r:List V->Hp->VK->Prop}
theorem aa(ha:PE X e te)(hr:PA X es t)(h:cF e=true:=by rfl):PA X (e::es) (Jb te t):=ZX ha hr (cW h)
theorem pf{k:Nat}{ps:List Str}{sp:Sp}(c:Ct X.prog X.w X.K X.mg X.base k x ps sp)(hr:jm k X.A)(ha:PA X (e::es) t)(hg:Gl X x:=by rfl)(hdb:(x==("__debug__" : Str))=false:=by decide)(h1:cF e=true:=by rfl)(h2:es.all cF=true:=by rfl) :
  PE X (.Call (.Name x p) (e::es) [] pos) (rY sp [] E0 t):=aeI c hr ha hg hdb (cW h1) (cU h2)
theorem pb(hc:cZ X (.builtin id) r)(hm:X.mg x=none)(hv:bootBuiltins x=some (.builtin id))(ha:PA X (e::es) t)(hg:Gl X x:=by rfl)(hn:x ≠ "__name__" := by decide)(hdb:(x==("__debug__" : Str))=false:=by decide)
  (h1:cF e=true:=by rfl) (h2:es.all cF=true:=by rfl):PE X (.Call (.Name x p) (e::es) [] pos) (tCB r t):=WD hc hg hm hv ha hn hdb (cW h1) (cU h2)
theorem pt(hc:cZ X (.type T) r)(hm:X.mg x=none)(hv:bootBuiltins x=some (.type T))(ha:PA X (e::es) t)(hg:Gl X x:=by rfl)(hn:x ≠ "__name__" := by decide)(hdb:(x==("__debug__" : Str))=false:=by decide)
  (h1:cF e=true:=by rfl) (h2:es.all cF=true:=by rfl):PE X (.Call (.Name x p) (e::es) [] pos) (tCB r t):=Sh hc hg hm hv ha hn hdb (cW h1) (cU h2)
end
end L2
namespace HT
open PySem PyProof.Rows
section
variable{prog:Program}{w:World}{A:Around}{E:Value->Shared->Prop}{s:Shared}
theorem ud{t sl:Addr}{items:Array Value}{vl vu:Value}{lo hi:Option Int}{Q:Value->Shared->Prop}(ht:IsTup s.heap t items)(hs:s.heap.IsSliceOf sl vl vu .none)(pl:IsPart vl lo)(pu:IsPart vu hi)
  (hw1:gP items.size 0 lo=0) (hw2:gP items.size items.size hi=items.size) (h:Q (.ref t) s):wpAny (model prog w) A (getItem (.ref t) (.ref sl)) Q E s:=by
 obtain⟨os,hos,hcs,hds⟩:=id hs;have tyS:s.TypeIs (.ref sl) "slice" := ⟨os,hos,hcs⟩;unfold getItem
 try with_reducible refine nO ?_
 first | refine aY (b_ ?_) | skip
 refine aY (wpAny_sequenceKey ht.typeIs ⋯ ?_)
 refine aY (R9 (name:=Str.ofString "__getitem__") ht.typeIs PyProof.Rows.slot_tuple_getitem (yC PyProof.Rows.slot_tuple_getitem ht.typeIs entry_tuple_getitem ?_ (args_tuple_getitem _ _)));show wpAny _ _ (Builtin.Tuple.tupleItemsOf (.ref t) >>= _) _ _ s;refine aY (tupleItemsOf_ ht ?_);refine aY (CZ tyS ?_);rw[aL ⋯]
 refine aY (lY hs pl pu ?_)
 have yes:(((gP items.size 0 lo:Nat):Int)==0&&(1:Int)==1&&(gP items.size items.size hi-gP items.size 0 lo)==items.size)=true:=by
  rw[hw1,hw2]; simp
 show wpAny _ _ (if(((gP items.size 0 lo:Nat):Int)==0&&(1:Int)==1&&(gP items.size items.size hi-gP items.size 0 lo)==items.size)=true then _ else _) _ _ s
 rw[aL yes]
 have ex:∀{R:Bool->Shared->Prop},R true s->wpAny (model prog w) A.in1 (Builtin.Tuple.tupleIsExact (.ref t)) R E s:=fun {R} q=>by
  unfold Builtin.Tuple.tupleIsExact;refine aY (CZ ht.typeIs (b_ ?_));rw[beq_self_eq_true];exact q
 refine aY (ex ?_);rw[aL rfl];exact aY (qH (b_ ⟨_,rfl,b_ h⟩))
end
end HT
namespace L2
open PySem PySem.Spec PyProof.Rows
theorem bu:bootBuiltins "isinstance" = some (.builtin "isinstance"):=by decide +kernel
theorem rP:bootBuiltins "len" = some (.builtin "len"):=by decide +kernel
theorem ac4:bootBuiltins "all" = some (.builtin "all"):=by decide +kernel
theorem ac3:bootBuiltins "any" = some (.builtin "any"):=by decide +kernel
theorem HH:bootBuiltins "sum" = some (.builtin "sum"):=by decide +kernel
theorem Ys:bootBuiltins "abs" = some (.builtin "abs"):=by decide +kernel
theorem gO:bootBuiltins "min" = some (.builtin "min"):=by decide +kernel
theorem jG:bootBuiltins "max" = some (.builtin "max"):=by decide +kernel
theorem vq:bootBuiltins "int" = some (.type "int"):=by decide +kernel
theorem HJ:bootBuiltins "str" = some (.type "str"):=by decide +kernel
theorem aaF:bootBuiltins "bool" = some (.type "bool"):=by decide +kernel
theorem iW:bootBuiltins "list" = some (.type "list"):=by decide +kernel
theorem dG:bootBuiltins "tuple" = some (.type "tuple"):=by decide +kernel
theorem aaE:bootBuiltins "dict" = some (.type "dict"):=by decide +kernel
theorem K_:bootBuiltins "range" = some (.type "range"):=by decide +kernel
theorem uq:bootBuiltins "enumerate" = some (.type "enumerate"):=by decide +kernel
theorem HF:bootBuiltins "zip" = some (.type "zip"):=by decide +kernel
section
variable{X:Cx}
theorem pty{x:Str}{T:String}{pos:Pos}(hg:Gl X x)(hm:X.mg x=none)(hv:bootBuiltins x=some (.type T))(hn:x ≠ "__name__" := by decide)(hd:(x==("__debug__" : Str))=false:=by decide):PE X (.Name x pos) (tC (.ty T)):=
 ZW (v:=.ty T) hg hm hv rfl hn hd
theorem Lp.of{T:String}{g:PyData->Bool}{v:V}{d:PyData}{H:Hp}{Q:VK}(h:At H d v)(q:Q (.bl (g d)) H):Ms T g [v,.ty T] H Q:=⟨v,d,rfl,h,q⟩
def agt(K:Frag):List V->Hp->VK->Prop:=fun vs H Q=>∃(p:Addr)(ys:List V),vs=[.ref p]/\(d7 K H p ys\/cB K H p ys)/\Q (.int ys.length) H
theorem jk{K:Frag}(hK:X.K=K):cZ X (.builtin "len") (agt K):=by
 subst hK;exact Ht
def acd:V->Option Int->Option Int->Hp->VK->Prop:=fun x lo hi H Q=>∃(a:Addr)(xs:List V),x=.ref a/\H a=some (.tup xs)/\∀p H',aF H H'->H' p=some (.tup (nq xs lo hi))->Q (.ref p) H'
theorem eX:SlR X acd:=by
 symm;intro x v vl vu lo hi sl Q I rx hs pl pu h;obtain⟨a,xs,e,hx,q⟩:=h;by_cases hw:HT.gP xs.length 0 lo=0/\HT.gP xs.length xs.length hi=xs.length
 ·subst e;cases rx;obtain⟨its,r,ht,hz⟩:=I.tuple (cB.of (K:=X.K) hx);have hlen:its.toArray.size=xs.length:=by rw[gq]; exact r.length.symm
  refine⟨"tuple",_,PyProof.Rows.slot_tuple_getitem.lookup,ht.typeIs,?_⟩;refine HT.ud ht hs pl pu (by rw[hlen]; exact hw.1) (by rw[hlen]; exact hw.2) ⟨.ref a,H,I,rfl,q a H (aF.refl H) ?_⟩
  rw[hx];unfold nq;rw[hw.1,hw.2,JM,JK,mY]
 ·exact ab0 ae s σ H x v vl vu lo hi sl Q I rx hs pl pu ⟨a,xs,e,cB.of hx,hw,fun p hp=>q p _ (aM hp _) aD⟩
def We:R2:=fun x y H Q=>∃(a b:Addr)(xs ys:List V),x=.ref a/\y=.ref b/\H a=some (.tup xs)/\H b=some (.tup ys)/\xs.length+ys.length<=sizeLine/\∀p H',aF H H'->H' p=some (.tup (xs++ys))->Q (.ref p) H'
theorem jn:rR X (binaryOp .Add) We:=by
 symm;intro x y v u Q I rx ry h;obtain⟨a,b,xs,ys,e1,e2,ha,hb,hz,q⟩:=h;by_cases hx:xs=[]
 ·subst hx e1 e2;cases rx;cases ry;obtain⟨its,r1,p1,_⟩:=I.tuple (cB.of (K:=X.K) ha);obtain⟨its2,r2,p2,_⟩:=I.tuple (cB.of (K:=X.K) hb);cases r1;obtain⟨⟨cls,dd,data,sl⟩,ho,hc,n,hd⟩:=id p1;obtain⟨⟨cls2,dd2,data2,sl2⟩,ho2,hc2,n2,hd2⟩:=id p2;simp only at hc hd hc2 hd2;subst hc hd hc2 hd2;exact concat_meets ⟨_,ho,rfl⟩ ⟨_,ho2,rfl⟩ noFill_tuple_add seq_tuple_add PySem.F.slot_tuple_add PySem.F.entry_tuple_add (PySem.F.args_tuple_add_2 _ _) (tuple_addW0 a b _ _ n n2 dd dd2 sl sl2 (by rfl)) ⟨ho,ho2,⟨.ref b,H,I,rfl,q b H (aF.refl H) hb⟩⟩
 ·refine Z0 ae s σ H x y v u Q I rx ry ⟨a,b,xs,ys,e1,e2,cB.of ha,cB.of hb,hx,hz,fun z=>?_,fun _ p hp=>q p _ (aM hp _) aD⟩;subst z;exact q a H (aF.refl H) (by rw[ha,oY])
def Ju:R2:=fun x y H Q=>∃(p:Addr)(xs:List V)(i:Int)(v:V),x=.ref p/\y=.int i/\(H p=some (.lst xs)\/H p=some (.tup xs))/\Ik xs i=some v/\Q v H
theorem aW:YS X Ju:=by
 have h:=(QV (X:=X)).or acK;refine .mk ?_;intro a b ae s σ H x y v u Q I rx ry q;obtain⟨p,xs,i,z,e1,e2,hp,ha,q⟩:=q;intro hs;refine h a b ae s σ H x y v u Q I rx ry ?_ hs;rcases hp with hp | hp
 ·exact .inl ⟨p,xs,i,z,e1,e2,d7.of hp,ha,q⟩
 ·exact .inr ⟨p,xs,i,z,e1,e2,cB.of hp,ha,q⟩
theorem Ix.tup{a:Addr}{xs:List V}{i:Int}{v:V}{H:Hp}{Q:VK}(h:H a=some (.tup xs))(e:Ik xs i=some v)(q:Q v H):Ju (.ref a) (.int i) H Q:=⟨a,xs,i,v,rfl,rfl,.inr h,e,q⟩
theorem Ix.lst{a:Addr}{xs:List V}{i:Int}{v:V}{H:Hp}{Q:VK}(h:H a=some (.lst xs))(e:Ik xs i=some v)(q:Q v H):Ju (.ref a) (.int i) H Q:=⟨a,xs,i,v,rfl,rfl,.inl h,e,q⟩
theorem ac1{js:List Nat}{ta:TA}{te:TE}{σ:St}{H:Hp}{Q:VK}{n:Nat}(hl:∀R:List V->Hp->Prop,R [.int n] H->ta σ H R)(hn:n<=1000000)
  (h:∀acc,H acc=none->∃Pv:Nat->List V->Hp->Prop,Pv 0 [] (upd H acc (.lst [])) /\
   (∀i ys H',i<n->Pv i ys H'->te (some (.int (0+(i:Nat)))::cg js σ) H' fun y dH=>dH acc=some (.lst ys)/\ys.length<sizeLine/\Pv (i+1) (ys++[y]) (upd dH acc (.lst (ys++[y])))) /\
   ∀ys H',Pv n ys H'->Q (.ref acc) H'):jr js (DP ta) te σ H Q:=by
 refine hl _ ⟨n,rfl,∅,∅,fun acc hacc=>?_⟩
 obtain⟨Pv,h0,hs,hd⟩:=h acc hacc;have en:((n:Int)).toNat=n:=uR n;rw[en];refine⟨fun i m ys H'=>m=n-i/\i<=n/\Pv i ys H',⟨n,rfl,fG _,h0⟩,?_⟩;rintro i m ys H2 ⟨rfl,hi,p⟩;by_cases hlt:i<n
 ·refine .inr ⟨hlt,fun x H3 y=>?_⟩;obtain⟨e,y⟩:=y;subst e y;have aaU:=hs i ys _ hlt p
  have fe:(fun(y:V)(dH:Hp)=>dH acc=some (.lst ys)/\ys.length<sizeLine/\Pv (i+1) (ys++[y]) (upd dH acc (.lst (ys++[y]))))=fun y H4=>H4 acc=some (.lst ys)/\ys.length<sizeLine/\∃m',m'<n-i/\(m'=n-(i+1)/\i+1<=n/\Pv (i+1) (ys++[y]) (upd H4 acc (.lst (ys++[y])))):=by
   funext y dH
   refine propext ⟨fun⟨a,b,c⟩=>⟨a,b,_,∅,rfl,hlt,c⟩,fun⟨a,b,m',_,_,_,c⟩=>⟨a,b,c⟩⟩
  rw[fe] at aaU;exact aaU
 ·have e:i=n:=by omega
  subst e;exact .inl ⟨dM _,hd ys _ p⟩
theorem dZ:cZ X (.type "tuple") (fun vs H Q=>∃(p:Addr)(ys:List V),vs=[.ref p]/\H p=some (.lst ys)/\∀l,H l=none->Q (.ref l) (upd H l (.tup ys))):=by
 symm;intro vs us Q I r h;obtain⟨p,ys,e,hp,q⟩:=h;exact Bj ae s σ H vs us Q I r ⟨p,ys,e,.inl ⟨d7.of hp,q⟩⟩
theorem ql:cZ X (.type "list") (fun vs H Q=>∃(p:Addr)(ys:List V),vs=[.ref p]/\H p=some (.tup ys)/\∀l,H l=none->Q (.ref l) (upd H l (.lst ys))):=by
 symm;intro vs us Q I r h;obtain⟨p,ys,e,hp,q⟩:=h;exact ug ae s σ H vs us Q I r ⟨p,ys,e,.inr (cB.of hp),q⟩
theorem abu{ta:TA}{g:TG}{tb:TS}{D:Ends}{σ:St}{H:Hp}{n:Nat}(hl:∀R:List V->Hp->Prop,R [.int n] H->ta σ H R)(hn:n<=1000000)(Pv:Nat->St->Hp->Prop)(h0:Pv 0 σ H)
  (hs:∀i σ H,i<n->Pv i σ H->g (.int (0+(i:Nat))) σ H fun σ2 H2=>tb { D with nx:=Pv (i+1),ct:=Pv (i+1),bk:=D.nx } σ2 H2) (hd:∀σ H,Pv n σ H->D.nx σ H):Aq (DP ta) g tb D σ H:=by
 refine hl _ ⟨n,rfl,∅,∅,?_⟩
 rw[uR];exact vg Pv h0 hs hd
def aa3(t:TA):TE:=fun σ H Q=>t σ H fun xs H1=>xs.length<=sizeLine/\∀p H',H1 p=none->aF H1 H'->H' p=some (.lst xs)->Q (.ref p) H'
def aaX(t:TA):TE:=fun σ H Q=>t σ H fun xs H1=>xs.length<=sizeLine/\∀p H',H1 p=none->aF H1 H'->H' p=some (.tup xs)->Q (.ref p) H'
theorem bR{es:List Expr}{t:TA}{pos:Pos}(h:PA X es t):PE X (.List es pos) (aa3 t):=by
 symm;intro Q I hq;refine wpAny_List_spliced (dI (h pos ae s σ H _ I hq) fun us s1 ⟨xs,H1,I1,r,z,q⟩=>⟨by rw[<- r.length]; exact z,?_⟩)
 have fr:H1 s1.heap.objs.size=none:=I1.hok.fresh (dM _);exact⟨.ref s1.heap.objs.size,upd H1 s1.heap.objs.size (.lst xs),I1.laid (t':=s1.toks) (fun b u e=>dJ _ e) (dM _) ⟨z,us,0,r,dF _ rfl⟩,rfl,q _ _ fr (aM fr _) aD⟩
theorem aV{es:List Expr}{t:TA}{x1}{pos:Pos}(h:PA X es t):PE X (.Tuple es x1 pos) (aaX t):=by
 symm;intro Q I hq;refine wpAny_Tuple_spliced (dI (h pos ae s σ H _ I hq) fun us s1 ⟨xs,H1,I1,r,z,q⟩=>⟨by rw[<- r.length]; exact z,?_⟩)
 have fr:H1 s1.heap.objs.size=none:=I1.hok.fresh (dM _);exact⟨.ref s1.heap.objs.size,upd H1 s1.heap.objs.size (.tup xs),I1.laid (t':=s1.toks) (fun b u e=>dJ _ e) (dM _) ⟨z,us,r,⟨_,dF _ rfl,rfl,_,rfl⟩⟩,rfl,q _ _ fr (aM fr _) aD⟩
def hid(a:Addr)(H:Hp):Hp:=fun b=>if b=a then none else H b
theorem dh{a b:Addr}{H:Hp}(h:b≠a):hid a H b=H b:=bD h
theorem mz{a:Addr}{H:Hp}:hid a H a=none:=aL rfl
theorem j8{a b:Addr}{H:Hp}{o:HO}(h:hid a H b=some o):b≠a/\H b=some o:=by
 by_cases e:b=a
 ·subst e; rw[mz] at h; cases h
 ·exact⟨e,by rw[dh e] at h; exact h⟩
theorem iV{a:Addr}{H:Hp}{o:HO}:hid a (upd H a o)=hid a H:=by
 funext b
 by_cases e:b=a
 ·subst e; rw[mz,mz]
 ·rw[dh e,dh e,aP e]
theorem j7{a p:Addr}{H:Hp}{o:HO}(h:p≠a):hid a (upd H p o)=upd (hid a H) p o:=by
 funext b
 by_cases e:b=a
 ·subst e; rw[mz,aP (Ne.symm h),mz]
 ·rw[dh e];by_cases e':b=p
  ·subst e'; rw[aD,aD]
  ·rw[aP e',aP e',dh e]
theorem fO{a:Addr}{H:Hp}:aF (hid a H) H:=fun b o h=>(j8 h).2
def SX(a:Addr)(H H':Hp):Prop:=aF (hid a H) (hid a H')
theorem SX.refl(a:Addr)(H:Hp):SX a H H:=aF.refl _
theorem SX.trans{a:Addr}{H H1 H2:Hp}(x:SX a H H1)(y:SX a H1 H2):SX a H H2:=aF.trans x y
theorem SX.of{a:Addr}{H H':Hp}(s:aF H H'):SX a H H':=fun b o h=>by
 obtain⟨n,e⟩:=j8 h;rw[dh n]; exact s _ _ e
theorem SX.upd{a:Addr}{H:Hp}{o:HO}:SX a H (upd H a o):=by unfold SX; rw[iV]; exact aF.refl _
theorem SX.get{a b:Addr}{H H':Hp}{o:HO}(s:SX a H H')(n:b≠a)(h:H b=some o):H' b=some o:=by
 have:=s b o (by rw[dh n]; exact h)
 exact(j8 this).2
def Tp(H:Hp)(a:Addr)(n:Nat):Prop:=∃x y z:Int,H a=some (.lst [.int x,.int y,.int z])/\0<=x/\0<=y/\y<4611686018427387904/\0<=z/\z<=n
theorem Tp.mono{H:Hp}{a:Addr}{n m:Nat}(h:Tp H a n)(l:n<=m):Tp H a m:=by
 obtain⟨x,y,z,e,h1,h2,h3,h4,h5⟩:=h;exact⟨x,y,z,e,h1,h2,h3,h4,∅⟩
theorem Tp.same{H H':Hp}{a:Addr}{n:Nat}(h:Tp H a n)(s:aF H H'):Tp H' a n:=by
 obtain⟨x,y,z,e,r⟩:=h;exact⟨x,y,z,s _ _ e,r⟩
theorem Tp.ne{H:Hp}{a b:Addr}{n:Nat}(h:Tp H a n)(e:H b=none):b≠a:=by
 obtain⟨x,y,z,q,_⟩:=h;intro z; subst z; rw[e] at q; cases q
theorem aF.hid{a:Addr}{H H':Hp}(s:aF H H'):aF (L2.hid a H) (L2.hid a H'):=fun b o h=>by
 obtain⟨n,e⟩:=j8 h;rw[dh n]; exact s _ _ e
theorem SX.kY{a p:Addr}{H H':Hp}{o:HO}(s:SX a H H')(hp:H p=none)(pa:p≠a):SX a H (L2.upd H' p o):=fun b u h=>by
 obtain⟨n,e⟩:=j8 h;rw[j7 pa,aP (bV e hp)];exact s b u h
theorem Tp.kY{H:Hp}{a p:Addr}{n:Nat}{o:HO}(t:Tp H a n)(pa:p≠a):Tp (L2.upd H p o) a n:=by
 obtain⟨x,y,z,e,r⟩:=t;exact⟨x,y,z,by rw[aP (Ne.symm pa)]; exact e,r⟩
def YQ(K:Frag)(H:Hp)(p:Addr)(xs:List V):Prop:=(∃o,H p=some (.Ig o (.lst xs))) \/
 ∃(o:Obj)(its:Array Value)(n:Nat),K.lookup p=some o/\o.cls=.type "list" /\ o.dict=none/\o.data=.seq its n/\its.size<=sizeLine/\Vals xs its.toList
theorem YQ.sq{K:Frag}{H:Hp}{p:Addr}{xs:List V}(h:YQ K H p xs):d7 K H p xs:=by
 rcases h with⟨o,h⟩ | h
 ·exact .inl (.inr ⟨o,h⟩)
 ·exact .inr h
theorem YQ.of{K:Frag}{H:Hp}{p:Addr}{xs:List V}(h:d7 K H p xs)(o:Only H):YQ K H p xs:=by
 rcases h with(h | h) | h
 ·rcases o p with e | ⟨ob,ys,e⟩
  ·rw[e] at h; cases h
  ·rw[e] at h; cases h
 ·exact .inl h
 ·exact .inr h
theorem YQ.same{K:Frag}{H H':Hp}{p:Addr}{xs:List V}(h:YQ K H p xs)(s:aF H H'):YQ K H' p xs:=by
 rcases h with⟨o,h⟩ | h
 ·exact .inl ⟨o,s _ _ h⟩
 ·exact .inr h
end
mutual
def fine(b:Nat):PyData->Bool
 | .none=>true
 | .bool _=>true
 | .int i=>decide (i.natAbs<=b)
 | .str x=>decide (x.length<=40)&&x.cps.toList.all fun c=>decide (c<4294967296)
 | .tuple ds=>Hj b ds
 | .list ds=>Hj b ds
 | .dict _=>false
def Hj(b:Nat):List PyData->Bool
 | []=>true
 | d::ds=>fine b d&&Hj b ds
end
mutual
def aeV:PyData->Nat
 | .tuple ds=>wQ ds+3
 | .list ds=>wQ ds+3
 | .dict _=>500
 | .none=>500
 | .bool _=>500
 | .int _=>500
 | .str _=>500
def wQ:List PyData->Nat
 | []=>0
 | d::ds=>aeV d+2+wQ ds
end
structure am4(b D M:Nat)(d:PyData):Prop where
 f:fine b d=true
 dp:d.depth<=D
 m:aeV d<=M
structure af4(b D M:Nat)(ds:List PyData):Prop where
 f:∀d∈ds,fine b d=true
 dp:∀d∈ds,d.depth<=D
 m:wQ ds<=M
section
variable{X:Cx}
end
theorem j_{xs:List V}{i:Int}(h:0<=i):nq xs none (some i)=xs.take i.toNat:=by
 obtain⟨j,rfl⟩:∃j:Nat,i=j:=⟨i.toNat,∅⟩
 unfold nq;rw[HT.Jr,HT.wL,JM,JK,uR];by_cases q:j<=xs.length
 ·rw[Nat.min_eq_left q]
 ·rw[Qa ∅,mY,JZ ∅]
theorem kj{xs:List V}{i:Int}(h:0<=i):nq xs (some i) none=xs.drop i.toNat:=by
 obtain⟨j,rfl⟩:∃j:Nat,i=j:=⟨i.toNat,∅⟩
 unfold nq;rw[HT.Jr,HT.wL,uR];by_cases q:j<=xs.length
 ·rw[Nat.min_eq_left q,JZ (by rw[yz]; omega)]
 ·rw[Qa ∅,yI,List.take_nil,Wi ∅]
def isS(d:PyData)(t:Str):Bool:=match d with
 | .str y=>y==t
 | _=>false
section
variable{X:Cx}
def Fz:Value->Str
 | .str t _=>t
 | _=>""
theorem Gr(hu:X.A.units+64<cLine):rR X (compareOp .NotEq) (fun x y H Q=>∃d e,At H d x/\At H e y/\d.hasDict=false/\e.hasDict=false/\d.canLay0=true/\e.canLay0=true/\d.depth<=60/\Q (.bl (!PyData.eqv d e)) H):=by
 symm;intro x y v u Q I rx ry h;obtain⟨d,e,hd,he,n1,n2,c1,c2,dp,q⟩:=h;obtain⟨as,r1⟩:=l_ I.hok _ _ _ hd rx n1;obtain⟨bs,r2⟩:=l_ I.hok _ _ _ he ry n2;exact SeqAt.compareNe_reads r1 r2 c1 c2 (by have:=Nat.min_le_left d.depth e.depth; omega) (cu I q rfl)
theorem WR(hu:X.A.units+64<cLine):rR X (compareOp .Eq) (fun x y H Q=>∃d e,At H d x/\At H e y/\d.hasDict=false/\e.hasDict=false/\d.canLay0=true/\e.canLay0=true/\d.depth<=60/\Q (.bl (PyData.eqv d e)) H):=by
 symm;intro x y v u Q I rx ry h;obtain⟨d,e,hd,he,n1,n2,c1,c2,dp,q⟩:=h;obtain⟨as,r1⟩:=l_ I.hok _ _ _ hd rx n1;obtain⟨bs,r2⟩:=l_ I.hok _ _ _ he ry n2;exact SeqAt.compareEq_reads r1 r2 c1 c2 (by have:=Nat.min_le_left d.depth e.depth; omega) (cu I q rfl)
end
def FK(g:TG)(tb:TS)(D:Ends)(σ:St)(vs:List V)(H1:Hp):Prop:=∃j:Int,vs=[.int j]/\-(2 ^ 62)<=j/\j<2 ^ 62/\∃W:Nat->Nat->St->Hp->Prop,(∃m,W 0 m σ H1)/\∀i m σ H,W i m σ H ->
 ((Ln 0 j.toNat).stop i H/\D.nx σ H)\/((Ln 0 j.toNat).go i H/\∃N:St->Hp->Prop,(∀σ' H',N σ' H'->∃m',m'<m/\W (i+1) m' σ' H')/\∀x H',(Ln 0 j.toNat).xj i H x H'->g x σ H' fun σ2 H2=>tb { D with nx:=N,ct:=N,bk:=D.nx } σ2 H2)
theorem Ja{ta:TA}{g:TG}{tb:TS}{D:Ends}{σ:St}{H:Hp}:Aq (DP ta) g tb D σ H=ta σ H (FK g tb D σ):=rfl
theorem FK.of{g:TG}{tb:TS}{D:Ends}{σ:St}{H:Hp}{n:Nat}{i:Int}(ei:i=n)(hn:n<=1000000)(Pv:Nat->St->Hp->Prop)(h0:Pv 0 σ H)
  (hs:∀i σ H,i<n->Pv i σ H->g (.int (0+(i:Nat))) σ H fun σ2 H2=>tb { D with nx:=Pv (i+1),ct:=Pv (i+1),bk:=D.nx } σ2 H2) (hd:∀σ H,Pv n σ H->D.nx σ H):FK g tb D σ [.int i] H:=by
 subst ei;refine⟨n,rfl,∅,∅,?_⟩
 rw[uR];exact vg Pv h0 hs hd
def TK(K:Frag)(g:TG)(tb:TS)(D:Ends)(σ:St)(x:V)(H1:Hp):Prop:=∃a,x=.ref a/\(∃xs,cB K H1 a xs)/\∃W:Nat->Nat->St->Hp->Prop,(∃m,W 0 m σ H1)/\∀i m σ H,W i m σ H ->
 ((Itt K a).stop i H/\D.nx σ H)\/((Itt K a).go i H/\∃N:St->Hp->Prop,(∀σ' H',N σ' H'->∃m',m'<m/\W (i+1) m' σ' H')/\∀x H',(Itt K a).xj i H x H'->g x σ H' fun σ2 H2=>tb { D with nx:=N,ct:=N,bk:=D.nx } σ2 H2)
theorem rW{K:Frag}{tl:TE}{g:TG}{tb:TS}{D:Ends}{σ:St}{H:Hp}:Aq (zx K tl) g tb D σ H=tl σ H (TK K g tb D σ):=rfl
theorem TK.of{K:Frag}{g:TG}{tb:TS}{D:Ends}{σ:St}{H:Hp}{a:Addr}{xs:List V}(ha:H a=some (.tup xs))(Pv:Nat->St->Hp->Prop)(h0:Pv 0 σ H)(hl:∀i σ H',i<=xs.length->Pv i σ H'->H' a=some (.tup xs))
  (hs:∀i x σ H,xs[i]?=some x->Pv i σ H->g x σ H fun σ2 H2=>tb { D with nx:=Pv (i+1),ct:=Pv (i+1),bk:=D.nx } σ2 H2) (hd:∀σ H,Pv xs.length σ H->D.nx σ H):TK K g tb D σ (.ref a) H:=
 ⟨a,rfl,⟨xs,cB.of ha⟩,aau (xs:=xs) Pv h0 (fun i σ H' hi p=>cB.of (hl i σ H' hi p)) hs hd⟩
def CK(js:List Nat)(te:TE)(σ:St)(Q:VK)(vs:List V)(H1:Hp):Prop:=∃j:Int,vs=[.int j]/\-(2 ^ 62)<=j/\j<2 ^ 62/\∀acc,H1 acc=none->∃W:Nat->Nat->List V->Hp->Prop,(∃m,W 0 m [] (upd H1 acc (.lst [])))/\∀i m ys H2,W i m ys H2 ->
 ((Ln 0 j.toNat).stop i H2/\Q (.ref acc) H2)\/((Ln 0 j.toNat).go i H2/\∀x H3,(Ln 0 j.toNat).xj i H2 x H3->te (some x::cg js σ) H3 fun y H4=>H4 acc=some (.lst ys)/\ys.length<sizeLine/\∃m',m'<m/\W (i+1) m' (ys++[y]) (upd H4 acc (.lst (ys++[y]))))
theorem RM{js:List Nat}{ta:TA}{te:TE}{σ:St}{H:Hp}{Q:VK}:jr js (DP ta) te σ H Q=ta σ H (CK js te σ Q):=rfl
theorem CK.of{js:List Nat}{te:TE}{σ:St}{H:Hp}{Q:VK}{n:Nat}{i:Int}(ei:i=n)(hn:n<=1000000)
  (h:∀acc,H acc=none->∃Pv:Nat->List V->Hp->Prop,Pv 0 [] (upd H acc (.lst [])) /\
   (∀i ys H',i<n->Pv i ys H'->te (some (.int (0+(i:Nat)))::cg js σ) H' fun y dH=>dH acc=some (.lst ys)/\ys.length<sizeLine/\Pv (i+1) (ys++[y]) (upd dH acc (.lst (ys++[y])))) /\
   ∀ys H',Pv n ys H'->Q (.ref acc) H'):CK js te σ Q [.int i] H:=by
 subst ei;have:=ac1 (ta:=fun _ H R=>R [.int n] H) (σ:=σ) (H:=H) (Q:=Q) (js:=js) (te:=te) (n:=n) (fun R hR=>hR) hn h;exact this
def Gs(mg:Str->Option Value)(x:Str)(i:Str):Prop:=∃t,mg x=some (.str i t)
theorem uV{X:Cx}{x:Str}{i:Str}{pos:Pos}(h:Gs X.mg x i)(hg:Gl X x:=by rfl)(hd:(x==("__debug__" : Str))=false:=by decide):PE X (.Name x pos) (tC (.str i)):=by
 obtain⟨t,ht⟩:=h;exact gD hg ht ⟨t,rfl⟩ hd
def gF(b:Int):List Int->Int
 | []=>b
 | x::r=>gF (if x>b then x else b) r
section
variable{prog:Program}{w:World}{A:Around}{R:Result->Shared->Prop}{It:Addr}{fp wr:List Addr}{n:Nat}{Pv:Nat->Value->Prop}{St:Nat->Heap->Prop}
theorem W8{ns:List Int}(W:Walks prog w A.in1 It fp wr n Pv St)(hn:n=ns.length)(hv:∀i v,Pv i v->∃t,v=.int (ns.getD i 0) t)(C:Addr)(nf:C∉fp)(d:Value):∀(m j:Nat)(z:Shared)(best:Int)(tb:Tok)(c:Nat),ns.length-j=m->j<=ns.length->St j z.heap ->
  z.heap.get? C=some ⟨.type "list",none,.seq #[.int best tb,.int best tb] c,#[]⟩ ->
  (∀t h' tk,(∀b o,b∉wr->b≠C->z.heap.get? b=some o->h'.get? b=some o)->R (.ok (.ret (.int (gF best (ns.drop j)) t))) { z with heap:=h',toks:=tk }) ->
  codeAny (model prog w) A (.builtin "max.loop" ⟨[.ref It,.none,.ref C],[("default",d)]⟩) R z:=by
 subst hn;have nw:C∉wr:=fun q=>nf (W.sub _ q);have nm:(toString "max" ++ toString ".loop" : String) = "max.loop" := by decide
 intro m
 induction m with
 | zero=>
  intro j z best tb c hm hj st hC fin;have e:j=ns.length:=by omega
  subst e;refine codeAny_builtin PySem.F.entry_max_loop ?_;rw[Around.under_plainId PySem.F.plain_max_loop _];show wpAny _ A.in1 (seqItems? (.ref C) >>= _) _ _ z;refine aY (qX hC rfl ?_);show wpAny _ A.in1 (tryCatch (pyNext (.ref It)) _ >>= _) _ _ z;refine aY (yF (W.done z _ _ st fun h' tk kp=>?_));refine aY (wpAny_updateSeq (kp C _ nw hC) rfl (aY (yE (b_ ?_))));rw[yI] at fin;exact fin tb _ tk fun b o h1 h2 h3=>(vZ _ _ (Ne.symm h2)).trans (kp b o h1 h3)
 | succ m ih=>
  intro j z best tb c hm hj st hC fin;have lt:j<ns.length:=by omega
  refine codeAny_builtin PySem.F.entry_max_loop ?_;rw[Around.under_plainId PySem.F.plain_max_loop _];show wpAny _ A.in1 (seqItems? (.ref C) >>= _) _ _ z;refine aY (qX hC rfl ?_);show wpAny _ A.in1 (tryCatch (pyNext (.ref It)) _ >>= _) _ _ z;refine aY (yF (W.item j z _ _ lt st fun v h' tk hP st' kp=>?_));obtain⟨t,rfl⟩:=hv j v hP;have hC':=kp C _ nw hC;show wpAny _ A.in1 (tryCatch (holding [_,_] (richCompare .Gt _ (.int best tb) >>= _)) _ >>= _) _ _ _;refine aY (yF (nO (aY (richCompare_gives (op:=.Gt) (typeIs_int _ _ t) (typeIs_int _ _ tb) PySem.F.slot_int_gt PySem.F.entry_int_gt (PySem.F.args_int_gt_2 _ _) (gives_int_gt _ _ t tb) (fun x=>nomatch x) ?_))))
  refine aY (nO (Gj (aY (yE (b_ ?_)))))
  have dr:ns.drop j=ns.getD j 0::ns.drop (j+1):=by
   rw[Ql lt,fD,gm lt]; rfl
  rw[dr] at fin;by_cases hb:ns.getD j 0>best
  ·have e1:gF best (ns.getD j 0::ns.drop (j+1))=gF (ns.getD j 0) (ns.drop (j+1)):=by rw[gF,aL hb]
   rw[e1] at fin;rw[ju hb];simp only[if_true];refine aY (wpAny_updateSeq hC' rfl (aY (yE ?_)));rw[nm];refine b_ ⟨plainId_quiet PySem.F.plain_max_loop _,ih (j+1) _ _ t _ ∅ lt (W.frame _ _ _ st' fun b hb o e=>?_) (A_ _ hC' rfl) fun t2 h2 tk2 k2=>?_⟩
   ·exact(vZ _ _ (fun q:C=b=>nf (by rw[q]; exact hb))).trans e
   ·exact fin t2 h2 tk2 fun b o h1 h3 e=>k2 b o h1 h3 ((vZ _ _ (Ne.symm h3)).trans (kp b o h1 e))
  ·have e1:gF best (ns.getD j 0::ns.drop (j+1))=gF best (ns.drop (j+1)):=by rw[gF,bD hb]
   rw[e1] at fin;rw[jL hb];simp only[jM,if_false];refine aY (yE ?_);rw[nm];refine b_ ⟨plainId_quiet PySem.F.plain_max_loop _,ih (j+1) _ best tb c ∅ lt st' hC' fun t2 h2 tk2 k2=>?_⟩
   exact fin t2 h2 tk2 fun b o h1 h3 e=>k2 b o h1 h3 (kp b o h1 e)
theorem Tg{ns:List Int}(W:Walks prog w A.in1 It fp wr n Pv St)(hn:n=ns.length)(hv:∀i v,Pv i v->∃t,v=.int (ns.getD i 0) t)(C:Addr)(nf:C∉fp)(d:Value)(z:Shared)(c:Nat)(st:St 0 z.heap)
  (hC:z.heap.get? C=some ⟨.type "list",none,.seq #[] c,#[]⟩)
  (f0:ns=[]->∀h' tk,(∀b o,b∉wr->b≠C->z.heap.get? b=some o->h'.get? b=some o)->R (.ok (.ret d)) { z with heap:=h',toks:=tk })
  (f1:∀x r,ns=x::r->∀t h' tk,(∀b o,b∉wr->b≠C->z.heap.get? b=some o->h'.get? b=some o)->R (.ok (.ret (.int (gF x r) t))) { z with heap:=h',toks:=tk }) :
  codeAny (model prog w) A (.builtin "max.loop" ⟨[.ref It,.none,.ref C],[("default",d)]⟩) R z:=by
 have nw:C∉wr:=fun q=>nf (W.sub _ q);have nm:(toString "max" ++ toString ".loop" : String) = "max.loop" := by decide
 refine codeAny_builtin PySem.F.entry_max_loop ?_;rw[Around.under_plainId PySem.F.plain_max_loop _];show wpAny _ A.in1 (seqItems? (.ref C) >>= _) _ _ z;refine aY (qX hC rfl ?_);show wpAny _ A.in1 (tryCatch (pyNext (.ref It)) _ >>= _) _ _ z;cases ns with
 | nil=>
  subst hn;refine aY (yF (W.done z _ _ st fun h' tk kp=>?_));show wpAny _ A.in1 (rule _ >>= _) _ _ _;exact aY (qH (b_ (f0 rfl h' tk fun b o h1 _ e=>kp b o h1 e)))
 | cons x r=>
  refine aY (yF (W.item 0 z _ _ (by rw[hn]; exact Nat.succ_pos _) st fun v h' tk hP st' kp=>?_))
  obtain⟨t,e⟩:=hv 0 v hP;have e:v=.int x t:=e;subst e;have hC':=kp C _ nw hC;show wpAny _ A.in1 (updateSeq C (fun _=>#[Value.int x t,Value.int x t]) >>= _) _ _ _;refine aY (wpAny_updateSeq hC' rfl ?_);rw[nm];refine b_ ⟨plainId_quiet PySem.F.plain_max_loop _,W8 W hn hv C nf d _ 1 _ x t _ rfl (by simp) (W.frame _ _ _ st' fun b hb o e=>?_) (A_ _ hC' rfl) fun t2 h2 tk2 k2=>?_⟩
  ·exact(vZ _ _ (fun q:C=b=>nf (by rw[q]; exact hb))).trans e
  ·exact f1 x r rfl t2 h2 tk2 fun b o h1 h3 e=>k2 b o h1 h3 ((vZ _ _ (Ne.symm h3)).trans (kp b o h1 e))
end
theorem Us(a v:Value):argsOk "max" ⟨[a],[("default",v)]⟩:=by unfold argsOk; kernel_rfl
section
variable{prog:Program}{w:World}{A:Around}{E:Value->Shared->Prop}{s:Shared}
theorem Ue{l:Addr}{its:List Value}{ns:List Int}{d:Value}{Q:Value->Shared->Prop}(hh:A.handled=none)(hl:s.heap.IsList l its.toArray)(hi:∀i v,its[i]?=some v->∃t,v=Value.int (ns.getD i 0) t)(hlen:its.length=ns.length)
  (h0:ns=[]->∀h' tk,(∀b o,s.heap.get? b=some o->h'.get? b=some o)->Q d { s with heap:=h',toks:=tk })
  (h1:∀b r,ns=b::r->∀t h' tk,(∀b o,s.heap.get? b=some o->h'.get? b=some o)->Q (Value.int (gF b r) t) { s with heap:=h',toks:=tk }) :
  wpAny (model prog w) A (call (.builtin "max") [.ref l] [("default",d)]) Q E s:=by
 have nm:(toString "max" ++ toString ".loop" : String) = "max.loop" := by decide
 have lt:l<s.heap.objs.size:=by obtain⟨_,e,_⟩:=hl; exact cI e
 refine kmk_tree PySem.F.kind_max PySem.F.plain_max PySem.F.entry_max (Us _ _) ?_;show wpAny _ A.in1 (Builtin.Builtins.bindParams "max" ["key","default"] 0 ⟨[],[("default",d)]⟩ >>= _) _ _ s;refine aY (uO (show Builtin.Builtins.bindParams "max" ["key","default"] 0 ⟨[],[("default",d)]⟩=pure [none,some d] from rfl) ?_);refine aY (b_ ?_);refine aY (Ay hl ?_);refine aY (vY ?_);rw[nm];have W:=Walks.list (prog:=prog) (w:=w) (A:=A.in1) hh s.heap.objs.size l (gB lt) its.toArray;generalize eh:s.heap.push { cls:=.type "list_iterator",data:=.fields #[.ref l,.int 0 0] }=h1';have sz:h1'.objs.size=s.heap.objs.size+1:=by rw[<- eh,iQ]
 have k1:∀b o,s.heap.get? b=some o->h1'.get? b=some o:=fun b o e=>by rw[<- eh]; exact dJ _ e
 have hit:h1'.IsListIter s.heap.objs.size l 0:=by rw[<- eh]; exact⟨_,dF _ rfl,rfl,rfl⟩
 have hl1:h1'.IsList l its.toArray:=by rw[<- eh]; exact hl.push _
 have nf:h1'.objs.size∉[s.heap.objs.size,l]:=fun q=>by
  rcases bT.mp q with e | q
  ·rw[sz] at e; exact Nat.succ_ne_self _ e
  ·have e:=fP.mp q; rw[sz] at e; rw[<- e] at lt; exact uP _ (JF (JR _) lt)
 have ol:∀{h':Heap},(∀b o,b∉[s.heap.objs.size]->b≠h1'.objs.size->(h1'.push { cls:=.type "list",data:=.seq #[] 0 }).get? b=some o->h'.get? b=some o)->∀b o,s.heap.get? b=some o->h'.get? b=some o:=fun k b o e=>by
  have lb:=cI e;refine k b o (fun q=>?_) (fun q=>?_) (dJ _ (k1 b o e))
  ·rw[fP.mp q] at lb; exact uP _ lb
  ·rw[q,sz] at lb; exact uP _ (JF (JR _) lb)
 refine b_ ⟨plainId_quiet PySem.F.plain_max_loop _,Tg (ns:=ns) W (by rw[gq,hlen]) (fun i v e=>hi i v (by simpa using e)) h1'.objs.size nf d _ _ ?_ (dF _ rfl) (fun e h' tk k=>h0 e h' tk (ol k)) (fun x r e t h' tk k=>h1 x r e t h' tk (ol k))⟩
 exact W.frame _ _ _ (show h1'.IsListIter s.heap.objs.size l 0/\h1'.IsList l its.toArray from⟨hit,hl1⟩) fun b _ o e=>dJ _ e
end
section
variable{X:Cx}
def aa2(t:TA)(te:TE):TE:=fun σ H Q=>t σ H fun vs H1=>te σ H1 fun y H2=>∃(p:Addr)(ns:List Int),vs=[.ref p]/\H2 p=some (.lst (ns.map V.int))/\(ns=[]->Q y H2)/\∀b r,ns=b::r->Q (.int (gF b r)) H2
theorem Fv{ns:List Int}:∀{us:List Value},Vals (ns.map V.int) us->∀i v,us[i]?=some v->∃t,v=Value.int (ns.getD i 0) t:=by
 induction ns with
 | nil=>intro us r i v e; cases r; simp at e
 | cons n ns ih=>
  intro us r i v e;cases r with
  | cons r1 r2=>
   cases i with
   | zero=>
    obtain⟨t,rfl⟩:=(r1:∃t,_=Value.int n t);simp at e;exact⟨t,e.symm⟩
   | succ i=>simpa using ih r2 i v (by simpa using e)
theorem Qw{e e2:Expr}{t:TA}{te:TE}{p pos aam:Pos}(hc:X.calm=true)(hm:X.mg "max" = none)(ha:PA X [e] t)(hk:PE X e2 te)(hg:Gl X "max" := by rfl)(h1:cF e=true:=by rfl) :
  PE X (.Call (.Name "max" p) [e] [⟨some "default",e2,aam⟩] pos) (aa2 t te):=by
 symm;intro Q I h;refine qY (ir I hg hm jG ?_ ⋯ ⋯)
 refine callWith_kw ?_ ?_ ?_ ?_ ?_
 ·refine dI (ha pos ae s σ H _ I h) fun us s1 qx=>?_;obtain⟨vs,H1,I1,r,q⟩:=qx;refine dI ((ZK hk acg:PK X [⟨some "default",e2,aam⟩] _) pos ae s1 σ H1 (fun ys H2=>∃y,ys=[y]/\(∃(p:Addr)(ns:List Int),vs=[.ref p]/\H2 p=some (.lst (ns.map V.int))/\(ns=[]->Q y H2)/\∀b r,ns=b::r->Q (.int (gF b r)) H2)) I1 ?_) fun ws s2 ⟨zs,H2,I2,rz,q2⟩=>?_
  ·show te σ H1 (fun x H2=>∃y,[x]=[y]/\_)
   have fe:(fun(x:V)(H2:Hp)=>∃y,[x]=[y]/\(∃(p:Addr)(ns:List Int),vs=[.ref p]/\H2 p=some (.lst (ns.map V.int))/\(ns=[]->Q y H2)/\∀b r,ns=b::r->Q (.int (gF b r)) H2))=fun y H2=>∃(p:Addr)(ns:List Int),vs=[.ref p]/\H2 p=some (.lst (ns.map V.int))/\(ns=[]->Q y H2)/\∀b r,ns=b::r->Q (.int (gF b r)) H2:=by
    funext x H2
    refine propext ⟨?_,fun z=>⟨x,rfl,z⟩⟩;rintro⟨y,ey,z⟩;cases ey;exact z
   rw[fe];exact q
  ·obtain⟨y,rfl,l,ns,rfl,hl,q0,q1⟩:=q2;obtain⟨u,rfl,ru⟩:=r.one;cases ru;obtain⟨v,rfl,rv⟩:=rz.one;obtain⟨_,its,n,rvs,eo⟩:=I2.hok l _ hl;have hlen:=rvs.length;rw[bW] at hlen;refine Ue (ns:=ns) (I2.ok.hd hc) (show s2.heap.IsList l its.toArray from⟨_,eo,rfl,n,rfl⟩) (Fv rvs) hlen.symm (fun e h' tk k=>⟨y,H2,I2.kept (t':=tk) k,rv,q0 e⟩) (fun b r e t h' tk k=>⟨.int (gF b r),H2,I2.kept (t':=tk) k,⟨t,rfl⟩,q1 b r e⟩)
 ·rw[cW h1]; rfl
 ·exact cU (es:=[e]) (by simp[h1])
 ·rfl
 ·rfl
end
def d8(t:Str):Nat:=if(("come" : Str)==t)=true then 0 else if(("done" : Str)==t)=true then 1 else 2
def Vj:List V:=[.str "come",.str "done",.str "wait"]
def aew(K:Frag):V->List V->Hp->VK->Prop:=fun x xs H Q=>∃(p:Addr)(t:Str),x=.ref p/\cB K H p Vj/\xs=[.str t]/\t∈(["come","done","wait"]:List Str)/\Q (.int (d8 t)) H
def acb:V->List V->Hp->VK->Prop:=fun x xs H Q=>∃(p:Addr)(t:Str),x=.ref p/\H p=some (.lst Vj)/\xs=[.str t]/\t∈(["come","done","wait"]:List Str)/\Q (.int (d8 t)) H
theorem xr{x y z:V}{us:List Value}(h:Vals [x,y,z] us):∃u v q,us=[u,v,q]/\RelV x u/\RelV y v/\RelV z q:=by
 obtain⟨u,r,rfl,h1,h⟩:=h.un;obtain⟨v,q,rfl,h2,h3⟩:=h.two;exact⟨u,v,q,rfl,h1,h2,h3⟩
theorem QW{t:Str}(h:t∈(["come","done","wait"]:List Str))(h0:(("come" : Str)==t)=false)(h1:(("done" : Str)==t)=false):(("wait" : Str)==t)=true:=by
 simp only[bT,jW,or_false] at h;rcases h with rfl | rfl | rfl
 ·revert h0; decide +kernel
 ·revert h1; decide +kernel
 ·decide +kernel
section
variable{X:Cx}
theorem I_{prog:Program}{w:World}{A:Around}{E:Value->Shared->Prop}{s:Shared}{p:Addr}{a b c t:Str}{k0 k1 k2 k3:Tok}{Q:Value->Shared->Prop}(ht:IsTup s.heap p #[.str a k0,.str b k1,.str c k2])(hl:(a==t)=false->(b==t)=false->(c==t)=true)
  (q:∀tk,Q (Value.int (if(a==t)=true then 0 else if(b==t)=true then 1 else 2) tk) { s with toks:=s.toks+1 }):wpAny (model prog w) A (call (.builtin "tuple.index") [.ref p,.str t k3]) Q E s:=by
 refine yC PySem.F.slot_tuple_index ht.typeIs PySem.F.entry_tuple_index ?_ (PySem.F.args_tuple_index_2 _ _);show wpAny _ A.in1 (Builtin.Tuple.tupleItemsOf (.ref p) >>= _) _ _ s;refine aY (tupleItemsOf_ ht ?_);show wpAny _ _ ((pure 0:Sem Nat) >>= _) _ _ s;refine aY (b_ ?_);show wpAny _ _ ((pure 3:Sem Nat) >>= _) _ _ s;refine aY (b_ ?_);show wpAny _ _ (forIn [0:3] _ _ >>= _) _ _ s;rw[Std.Legacy.Range.forIn_eq_forIn_range'];have e:List.range' [0:3].start [0:3].size [0:3].step=[0,1,2]:=rfl;rw[e,Df]
 have mk:∀(i:Int){R:PySem.Fin->Shared->Prop},(∀tk,R (.done (.ret (.int i tk))) { s with toks:=s.toks+1 })->wpAny (model prog w) A.in1 (retInt i) R E s:=fun i {R} h=>by
  unfold retInt;refine aY (wpAny_mkInt (b_ (h _)))
 have eq:∀(z:Str)(k:Tok),SeqAt.EqAt A.in1 s (.str z k) (.str t k3) (z==t):=fun z k=>SeqAt.EqAt.str_str z k t k3;cases e0:(a==t) with
 | true=>
  rw[e0] at q;refine aY (aY (aY (eq a k0 _ _ _ _ ?_)));rw[e0,aL rfl];refine aY (mk 0 fun tk=>b_ (b_ (b_ ⟨_,rfl,q tk⟩)))
 | false=>
  rw[e0] at q;refine aY (aY (aY (eq a k0 _ _ _ _ ?_)));rw[e0,bD ⋯]
  refine b_ ?_;show wpAny _ _ (forIn [1,2] _ _) _ _ s;rw[Df];cases e1:(b==t) with
  | true=>
   rw[e1] at q;refine aY (aY (eq b k1 _ _ _ _ ?_));rw[e1,aL rfl];refine aY (mk 1 fun tk=>b_ (b_ (b_ ⟨_,rfl,q tk⟩)))
  | false=>
   rw[e1] at q;refine aY (aY (eq b k1 _ _ _ _ ?_));rw[e1,bD ⋯]
   refine b_ ?_;show wpAny _ _ (forIn [2] _ _) _ _ s;rw[Df];refine aY (aY (eq c k2 _ _ _ _ ?_));rw[hl e0 e1,aL rfl];refine aY (mk 2 fun tk=>b_ (b_ (b_ ⟨_,rfl,q tk⟩)))
theorem Th{K:Frag}(hK:X.K=K):MtR X "tuple.index" (aew K):=by
 subst hK;intro ae s σ H x xs v us Q I rx rv h;obtain⟨p,t,rfl,hp,rfl,ht,q⟩:=h;cases rx;obtain⟨u,rfl,tk,rfl⟩:=rv.one;obtain⟨its,r,pt,_⟩:=I.tuple hp;obtain⟨u0,u1,u2,rfl,⟨k0,rfl⟩,⟨k1,rfl⟩,⟨k2,rfl⟩⟩:=xr r;refine I_ pt (QW ht) fun tk'=>⟨.int (d8 t),H,I.tok _,⟨tk',?_⟩,q⟩;unfold d8;split
 ·rfl
 ·split <;> rfl
theorem Ti:MtR X "list.index" acb:=by
 intro ae s σ H x xs v us Q I rx rv h;obtain⟨p,t,rfl,hp,rfl,ht,q⟩:=h;cases rx;obtain⟨u,rfl,tk,rfl⟩:=rv.one;obtain⟨_,its,n,r,e⟩:=I.hok p _ hp;obtain⟨u0,u1,u2,rfl,⟨k0,rfl⟩,⟨k1,rfl⟩,⟨k2,rfl⟩⟩:=xr r
 have ee:∀y,y ∈ #[Value.str "come" k0,Value.str "done" k1,Value.str "wait" k2]->SeqAt.EqAt X.A.in1 s y (.str t tk) (Fz y==t):=fun y hy=>by
  simp only[List.mem_toArray,bT,jW,or_false] at hy;rcases hy with rfl | rfl | rfl <;> exact SeqAt.EqAt.str_str _ _ _ _
 have fin:∀j:Nat,d8 t=j->(∃x H',Inv X ae σ H' { s with toks:=s.toks+1 }/\RelV x (.int (j:Int) s.toks)/\Q x H'):=fun j ej=>⟨.int j,H,I.tok _,⟨_,rfl⟩,by rw[<- ej]; exact q⟩
 cases e0:(("come" : Str)==t) with
 | true=>
  refine call_meets PySem.F.slot_list_index ⟨_,e,rfl⟩ PySem.F.entry_list_index (PySem.F.args_list_index_2 _ _) (SeqAt.list_indexAt p #[.str "come" k0,.str "done" k1,.str "wait" k2] n none #[] (.str t tk) (fun y=>Fz y==t) 0 (by show 0<3; decide) ⋯ e0 (fun m hm h=>by omega)) ⟨e,ee,?_⟩
  exact fin 0 (by unfold d8; rw[aL e0])
 | false=>
  cases e1:(("done" : Str)==t) with
  | true=>
   refine call_meets PySem.F.slot_list_index ⟨_,e,rfl⟩ PySem.F.entry_list_index (PySem.F.args_list_index_2 _ _) (SeqAt.list_indexAt p #[.str "come" k0,.str "done" k1,.str "wait" k2] n none #[] (.str t tk) (fun y=>Fz y==t) 1 (by show 1<3; decide) ⋯ e1 (fun m hm h=>by
    have:m=0:=by omega
    subst this; exact e0)) ⟨e,ee,?_⟩
   exact fin 1 (by unfold d8; rw[bD (by rw[e0]; decide),aL e1])
  | false=>
   refine call_meets PySem.F.slot_list_index ⟨_,e,rfl⟩ PySem.F.entry_list_index (PySem.F.args_list_index_2 _ _) (SeqAt.list_indexAt p #[.str "come" k0,.str "done" k1,.str "wait" k2] n none #[] (.str t tk) (fun y=>Fz y==t) 2 (by show 2<3; decide) ⋯ (QW ht e0 e1) (fun m hm h=>by
    have:m=0\/m=1:=by omega
    rcases this with rfl | rfl
    ·exact e0
    ·exact e1)) ⟨e,ee,?_⟩
   exact fin 2 (by unfold d8; rw[bD (by rw[e0]; decide),bD (by rw[e1]; decide)])
def GT2(K:Frag)(mg:Str->Option Value)(x:Str)(W:List V):Prop:=∃a,mg x=some (.ref a)/\(∃o,K.lookup a=some o/\o.cls=.type "tuple" /\ o.dict=none)/\∀H,cB K H a W
def abT(K:Frag)(W:List V):TE:=fun _ H Q=>∀a,(∃o,K.lookup a=some o/\o.cls=.type "tuple" /\ o.dict=none)->(∀H',cB K H' a W)->Q (.ref a) H
theorem Qu{K:Frag}{x:Str}{W:List V}{pos:Pos}(hK:X.K=K)(h:GT2 K X.mg x W)(hg:Gl X x:=by rfl)(hd:(x==("__debug__" : Str))=false:=by decide):PE X (.Name x pos) (abT K W):=by
 obtain⟨a,ha,ho,hs⟩:=h;symm;intro Q I q;exact gD (v:=.ref a) hg ha rfl hd ae s σ H Q I (q a ho hs)
end
section
variable{X:Cx}{pos:Pos}
def ad7(i j l:Nat)(ta:TA):TS:=fun D σ H=>ta σ H fun vs H1=>∃v w z,vs=[v,w,z]/\D.nx (((σ.set l (some z)).set j (some w)).set i (some v)) H1
end
theorem Inv.O9{X:Cx}{ae:List (Addr×Obj)}{σ:St}{H:Hp}{s:Shared}{h':Heap}{t':Nat}{e it:Addr}(I:Inv X ae σ H s)(k:∀b o,b≠e->b≠it->s.heap.get? b=some o->h'.get? b=some o)(fe:g8 X ae H e)(fi:g8 X ae H it) :
  Inv X ae σ H { s with heap:=h',toks:=t' }:=by
 have k2:∀b o,b∉[e,it]->s.heap.get? b=some o->h'.get? b=some o:=fun b o hb q=>k b o (fun z=>hb (by simp[z])) (fun z=>hb (by simp[z])) q
 have fp:∀b∈[e,it],g8 X ae H b:=fun b hb=>by
  rcases bT.mp hb with z | z
  ·rw[z]; exact fe
  ·rw[fP.mp z]; exact fi
 have ni:∀b u,H b=some u->b∉[e,it]:=fun b u q hb=>by rw[(fp b hb).1] at q; cases q
 refine I.step (g':=s.gens) (d':=s.drawn) (ch:=[e,it]) (fun b hb=>?_) (fun b o _ _ hc q _=>k2 b o hc q) (fun b o _ _ hc q _=>⟨o.slots,k2 b o hc q⟩) (fun _ _ _ _ n=>n) (fun b o hc q=>⟨o,k2 b o hc q⟩) (fun _ _ q=>q) (fun _ _ _ q=>q)
  (fun b ps q=>⟨#[],by rw[q]; simp⟩) (fun m hm=>?_) (fun b u q=>?_) I.bare
 ·obtain⟨_,f1,_,f3,f4,f5⟩:=fp b hb;exact⟨f3,f1,f4,f5⟩
 ·obtain⟨o,es,ep,ho,r⟩:=hm;refine⟨o,es,ep,k2 _ o (fun hb=>(fp _ hb).2.1 rfl) ho,r⟩
 ·refine(I.hok b u q).stay (fun c v hc z=>k2 c v ?_ z) (fun _ z=>z) fun _ _ z=>z;rcases hc with z | z
  ·rw[z]; exact ni b u q
  ·exact ni c _ z
def Ite(K:Frag)(a:Addr):It:=
 ⟨fun i H=>∃xs x,d7 K H a xs/\xs[i]?=some x,fun i H x H'=>∃p y,H p=none/\x=.ref p/\H'=upd H p (.tup [.int i,y])/\∀xs,d7 K H a xs->xs[i]?=some y,fun i H=>∃xs,d7 K H a xs/\xs.length<=i⟩
theorem RK{P:Program}{w:World}{K:Frag}{elts:List Expr}{x1}{tp:Pos}(a e it:Addr)(hne:e≠it):Turn P w K (.Tuple elts x1 tp) (Ite K a) [e,it] e (fun i h=>(∃old,IsEnum h e it (i:Nat) old)/\h.IsListIter it a i) where
 mem:=by simp
 obj:=fun i h st b hb=>by
  obtain⟨⟨old,he⟩,o,ho,c,d⟩:=st;rcases bT.mp hb with z | z
  ·rw[z]; exact⟨_,he,fun v q=>by cases q⟩
  ·rw[fP.mp z]; exact⟨o,ho,fun v q=>by rw[d] at q; cases q⟩
 keep:=fun i h h' st k=>by
  obtain⟨⟨old,he⟩,hi⟩:=st;exact⟨⟨old,k e (by simp) _ he⟩,hi.at fun o q=>k it (by simp) o q⟩
 item:=by
  intro X hP hw hK hc i ae s σ H E I hf st hg;subst hP hw hK;obtain⟨⟨old,he⟩,hi⟩:=st;obtain⟨xs,x,hq,hx⟩:=hg;obtain⟨its,rv,p,hz⟩:=I.list hq;obtain⟨u,hu,ru⟩:=rv.get hx;have fe:=hf e (by simp)
  have fi:=hf it (by simp)
  refine wpAny_pyNext_enum_item he hi p.isList (x:=u) (by simpa using hu) hne fun h' eo hi' ht hsz kk=>?_
  have fr:H s.heap.objs.size=none:=I.hok.fresh (dM _)
  have I1:Inv X ae σ (upd H s.heap.objs.size (.tup [.int i,x])) { s with heap:=s.heap.push { cls:=.type "tuple",data:=.seq #[.int i s.toks,u] },toks:=s.toks }:=
   I.laid (t':=s.toks) (fun b v q=>dJ _ q) (dM _) ⟨(by show 2<=sizeLine; decide),[.int i s.toks,u],.cons ⟨_,rfl⟩ (.cons ru .nil),⟨_,dF _ rfl,rfl,_,rfl⟩⟩
  have ee:e<s.heap.objs.size:=cI he;have ei:it<s.heap.objs.size:=by obtain⟨o,ho,_⟩:=hi; exact cI ho
  have NP:g8 X ae (upd H s.heap.objs.size (.tup [.int i,x])) e:=⟨by rw[aP (gB ee)]; exact fe.1,fe.2⟩
  have fi1:g8 X ae (upd H s.heap.objs.size (.tup [.int i,x])) it:=⟨by rw[aP (gB ei)]; exact fi.1,fi.2⟩
  have I2:Inv X ae σ (upd H s.heap.objs.size (.tup [.int i,x])) { s with heap:=h',toks:=s.toks+1 }:=I1.O9 (t':=s.toks+1) (fun b o h1 h2 q=>by
   by_cases z:b=s.heap.objs.size
   ·subst z;rw[dF _ rfl] at q;cases q;exact ht
   ·rcases Heap.get?_push_cases q with w | w
    ·exact absurd w.1 z
    ·exact kk b o h1 h2 w) NP fi1
  refine⟨_,rfl,wpAny_letOwnedTupleGo_enum eo fun h'' en sb=>⟨.ref s.heap.objs.size,_,I2.turned (it:=e) (t':=s.toks+1) (fun b o hb q=>sb.extBut b o hb q) NP.1 NP.2.1 NP.2.2.2.1 NP.2.2.2.2.1 NP.2.2.2.2.2,rfl,⟨_,x,fr,rfl,rfl,fun ys hy=>by rw[I.zf hy hq]; exact hx⟩,⟨⟨_,en⟩,?_⟩,fun b hb=>?_⟩⟩
  ·exact hi'.at fun o q=>sb.extBut it o (Ne.symm hne) q
  ·rcases bT.mp hb with z | z
   ·rw[z]; exact NP.1
   ·rw[fP.mp z]; exact fi1.1
 done:=by
  intro X hP hw hK hc i ae s σ H E I hf st hg;subst hP hw hK;obtain⟨⟨old,he⟩,hi⟩:=st;obtain⟨xs,hq,hx⟩:=hg;obtain⟨its,rv,p,hz⟩:=I.list hq;have hl:=rv.length;obtain⟨f0,f1,f2,f3,f4,f5⟩:=hf it (by simp)
  exact wpAny_pyNext_enum_end (I.ok.hd hc) he hi p.isList (by simp; omega) fun h' eb=>⟨rfl,I.turned (t':=s.toks) (fun b o hb q=>eb b o hb q) f0 f1 f3 f4 f5⟩
 self:=fun _ _ _ _ _ st h=>by
  obtain⟨⟨old,he⟩,_⟩:=st;exact Qe he h
section
variable{X:Cx}
def abq(K:Frag)(ta:TA):TI:=fun σ H R=>ta σ H fun vs H1=>∃a,vs=[.ref a]/\(∃xs,d7 K H1 a xs)/\R (Ite K a) H1
theorem Qt{K:Frag}{e:Expr}{elts:List Expr}{x1}{tp p pos:Pos}{ta:TA}(hK:X.K=K)(hm:X.mg "enumerate" = none)(ha:PA X [e] ta)(hg:Gl X "enumerate" := by rfl)(h1:cF e=true:=by rfl) :
  PI X (.Tuple elts x1 tp) (.Call (.Name "enumerate" p) [e] [] pos) (abq K ta):=by
 subst hK;symm;intro R I h;refine qY (ir I hg hm uq ?_ ⋯ ⋯)
 refine PyProof.Rows.callWith_type1 (dI (ha pos ae s σ H _ I h) fun us s1 ⟨vs,H1,I1,r1,q1⟩=>?_) (cW h1) (cU (es:=[]) rfl);obtain⟨a,rfl,⟨xs,hq⟩,q⟩:=q1;obtain⟨u,rfl,ru⟩:=r1.one;cases ru;obtain⟨its,rv,pl,hz⟩:=I1.list hq;refine call_enumerate_list pl.isList fun h' he hi hsz kk=>?_;have I2:Inv X ae σ H1 { s1 with heap:=h' }:=I1.kept (t':=s1.toks) kk
 have f1:H1 (s1.heap.objs.size+1)=none:=I1.hok.fresh (Nat.le_succ _);have f0:H1 s1.heap.objs.size=none:=I1.hok.fresh (dM _);refine Qe he ⟨s1.heap.objs.size+1,_,_,Ite X.K a,H1,rfl,I2,RK a (s1.heap.objs.size+1) s1.heap.objs.size (Nat.succ_ne_self _),⟨⟨_,he⟩,hi⟩,fun b hb=>?_,q⟩;rcases bT.mp hb with z | z
 ·rw[z]; exact I1.rF (Nat.le_succ _) f1
 ·rw[fP.mp z]; exact I1.rF (dM _) f0
def EK(K:Frag)(g:TG)(tb:TS)(D:Ends)(σ:St)(vs:List V)(H1:Hp):Prop:=∃a,vs=[.ref a]/\(∃xs,d7 K H1 a xs)/\∃W:Nat->Nat->St->Hp->Prop,(∃m,W 0 m σ H1)/\∀i m σ H,W i m σ H ->
 ((Ite K a).stop i H/\D.nx σ H)\/((Ite K a).go i H/\∃N:St->Hp->Prop,(∀σ' H',N σ' H'->∃m',m'<m/\W (i+1) m' σ' H')/\∀x H',(Ite K a).xj i H x H'->g x σ H' fun σ2 H2=>tb { D with nx:=N,ct:=N,bk:=D.nx } σ2 H2)
theorem Cd{K:Frag}{ta:TA}{g:TG}{tb:TS}{D:Ends}{σ:St}{H:Hp}:Aq (abq K ta) g tb D σ H=ta σ H (EK K g tb D σ):=rfl
theorem EK.of{K:Frag}{g:TG}{tb:TS}{D:Ends}{σ:St}{H:Hp}{a:Addr}{xs:List V}(ha:H a=some (.lst xs))(Pv:Nat->St->Hp->Prop)(h0:Pv 0 σ H)(hl:∀i σ H',i<=xs.length->Pv i σ H'->H' a=some (.lst xs))
  (hs:∀i x σ H p,xs[i]?=some x->Pv i σ H->H p=none->g (.ref p) σ (upd H p (.tup [.int (i:Nat),x])) fun σ2 H2=>tb { D with nx:=Pv (i+1),ct:=Pv (i+1),bk:=D.nx } σ2 H2) (hd:∀σ H,Pv xs.length σ H->D.nx σ H):EK K g tb D σ [.ref a] H:=by
 refine⟨a,rfl,⟨xs,d7.of ha⟩,fun i m σ H=>m=xs.length-i/\i<=xs.length/\Pv i σ H,⟨_,rfl,fG _,h0⟩,?_⟩;rintro i m σ H ⟨rfl,hi,p⟩;have q:d7 K H a xs:=d7.of (hl i σ H hi p);by_cases hlt:i<xs.length
 ·refine .inr ⟨⟨xs,xs[i],q,gm hlt⟩,Pv (i+1),fun σ' H' p'=>⟨xs.length-(i+1),∅,rfl,hlt,p'⟩,fun x H' y=>?_⟩
  obtain⟨t,z,ht,rfl,rfl,hz⟩:=y;exact hs i z σ H t (hz xs q) p ht
 ·have e:i=xs.length:=by omega
  subst e;exact .inl ⟨⟨xs,q,dM _⟩,hd σ H p⟩
end
theorem Dv:∀(l:List Int)(b x:Int),gF b (l++[x])=if x>gF b l then x else gF b l
 | [],b,x=>rfl
 | y::l,b,x=>by
  show gF (if y>b then y else b) (l++[x])=_
  rw[Dv l]; rfl
theorem Rq(val:Nat->Int):∀k,val (argBest (fun i j=>decide (val i>val j)) k)=gF (val 0) ((List.range k).map fun i=>val (i+1))
 | 0=>rfl
 | k+1=>by
  have ih:=Rq val k;rw[yG,iZ];show val (if decide (val (k+1)>val (argBest _ k))=true then k+1 else argBest _ k)=gF (val 0) (_++[val (k+1)])
  rw[Dv,<- ih];by_cases h:val (k+1)>val (argBest (fun i j=>decide (val i>val j)) k)
  ·rw[aL (ju h),aL h]
  ·rw[bD (by rw[jL h]; decide),bD h]
def pairOf:Value->Int×Tok
 | .int i t=>(i,t)
 | _=>(0,0)
theorem rE:∀{ns:List Int}{us:List Value},Vals (ns.map V.int) us->us.toArray=intItems (us.map pairOf).toArray/\us.map (fun u=>(pairOf u).1)=ns
 | [],_,.nil=>⟨by simp[intItems],rfl⟩
 | n::ns,_,.cons r t=>by
  obtain⟨tk,rfl⟩:=(r:∃tk,_=Value.int n tk);obtain⟨h1,h2⟩:=rE t;refine⟨?_,by rw[oX,h2]; rfl⟩
  have h1':=jF Array.toList h1;unfold intItems at h1' ⊢
  apply Array.ext'
  simp at h1' ⊢;exact⟨⟨rfl,rfl⟩,h1'⟩
section
variable{X:Cx}
theorem Ef(hc:X.calm=true):cZ X (.builtin "max") (fun vs H Q=>∃(p:Addr)(b:Int)(r:List Int),vs=[.ref p]/\H p=some (.lst ((b::r).map V.int))/\Q (.int (gF b r)) H):=by
 symm;intro vs us Q I r h;obtain⟨p,b,rs,rfl,hp,q⟩:=h;obtain⟨u,rfl,ru⟩:=r.one;cases ru;obtain⟨_,its,n,rv,e⟩:=I.hok p _ hp;obtain⟨e1,e2⟩:=rE rv;have hl:s.heap.IsList p (intItems (its.map pairOf).toArray):=by rw[<- e1]; exact⟨_,e,rfl,n,rfl⟩
 have hlen:=rv.length;rw[bW] at hlen
 have na:∀i,numAt (its.map pairOf).toArray i=(b::rs).getD i 0:=fun i=>by
  unfold numAt;rw[<- e2,fD];simp;rfl
 refine max_intList (I.ok.hd hc) hl (by simp; rw[<- hlen]; simp) fun v h' tk hv k=>?_
 obtain⟨t,rfl⟩:=intItems_at hv;refine⟨.int (gF b rs),H,I.kept (t':=tk) k,⟨t,?_⟩,q⟩;have:=Rq (numAt (its.map pairOf).toArray) ((its.map pairOf).toArray.size-1);rw[this]
 congr 1
 have sz:(its.map pairOf).toArray.size-1=rs.length:=by simp; rw[<- hlen]; simp
 rw[sz,na 0];show gF b _=_
 congr 1
 apply Dj
 ·simp
 ·intro i h1 h2;simp at h1 h2;rw[List.getElem_map,JX,na (i+1)];simp[fD,h2]
theorem Eg:cZ X (.type "list") (fun vs H Q=>∃(p:Addr)(ys:List V),vs=[.ref p]/\H p=some (.lst ys)/\∀l,H l=none->Q (.ref l) (upd H l (.lst ys))):=by
 symm;intro vs us Q I r h;obtain⟨p,ys,e,hp,q⟩:=h;exact ug ae s σ H vs us Q I r ⟨p,ys,e,.inl (d7.of hp),q⟩
theorem gJ{K:Frag}{o e:Expr}{es:List Expr}{to:TE}{t:TA}{name:Str}{apos cpos:Pos}{T id:String}{r:V->List V->Hp->VK->Prop}(hK:X.K=K)(pa:PlainAttrs T)(slot:Slot T name id)(hty:typeOf (.builtin id)=pure (.type "method_descriptor"))(hm:MtR X id r)(ho:PE X o to)(ha:PA X (e::es) t)
  (hbase:attributeBase o name X.env (eval o X.env)=eval o X.env:=by rfl)
  (hfew:((backTo cpos (starEach (e::es) X.env)).all (fun x=>!x.1)&&(backToKw cpos (keywordEach [] X.env)).all (fun x=>x.1.isSome)&&decide ((e::es).length+([]:List Keyword).length+(if([]:List Keyword).isEmpty then 0 else 1)<30))=true:=by rfl)
  (hline:(apos.endLine==cpos.line)=true:=by rfl) (hs:starEach (e::es) X.env=(false,eval e X.env)::starEach es X.env:=by rfl) (hplain:(backTo cpos (starEach es X.env)).any (·.1)=false:=by rfl):PE X (.Call (.Attribute o name apos) (e::es) [] cpos) (tBM K T r to t):=by
 subst hK;exact aeH pa slot hty hm ho ha hbase hfew hline hs hplain
end
theorem Mg:isSubtype (.type "range_iterator") (.type "reversed")=pure false:=by rw[isSubtype_type]; kernel_rfl
section
variable{prog:Program}{w:World}{A:Around}{E:Value->Shared->Prop}{s:Shared}
def yj(n:Int):Obj:={ cls:=.type "range_iterator",data:=.fields #[rawInt (n-1),rawInt n,rawInt (-1)] }
theorem zZ{r:Addr}{n:Int}{t u v:Tok}{Q:Value->Shared->Prop}(hr:IsRange s.heap r 0 n 1 t u v)(h0:0<=n)(h1:n<2 ^ 62)(h:Q (.ref s.heap.objs.size) { s with heap:=s.heap.push (yj n) }) :
  wpAny (model prog w) A (call (.builtin "range.__reversed__") [.ref r]) Q E s:=by
 have hT:s.TypeIs (.ref r) "range" := ⟨_,hr,rfl⟩;refine yC PySem.F.slot_range_reversed hT PySem.F.entry_range_reversed ?_ (PySem.F.args_range_reversed_1 _);unfold Builtin.«range.__reversed__»;refine aY (uO (a:=Value.ref r) rfl ?_)
 have rf:∀{R:Int×Int×Int->Shared->Prop},R (0,n,1) s->wpAny (model prog w) A.in1 (Builtin.Range.rangeFields (.ref r)) R E s:=fun {R} hR=>by
  unfold Builtin.Range.rangeFields;refine aY (jT hr rfl (x:=.int 0 t) rfl (aY (uO (a:=some (0:Int)) rfl ?_)));refine aY (jT hr rfl (x:=.int n u) rfl (aY (uO (a:=some n) rfl ?_)));exact aY (jT hr rfl (x:=.int 1 v) rfl (aY (uO (a:=some (1:Int)) rfl (b_ hR))))
 refine aY (rf ?_);dsimp only;have sz:Builtin.Range.rangeSize 0 n 1=n:=by rw[rangeSize_one]; split <;> omega
 rw[sz]
 have sm:(Builtin.Range.rangeFitsLong 0&&Builtin.Range.rangeFitsLong n&&Builtin.Range.rangeFitsLong 1&&Builtin.Range.rangeFitsLong (-1)&&Builtin.Range.rangeFitsLong (0-1)&&Builtin.Range.rangeFitsLong n)=true:=by
  have:Builtin.Range.rangeFitsLong n=true:=by simp only[Builtin.Range.rangeFitsLong,Gg,decide_eq_true_eq]; omega
  rw[this]; decide
 rw[sm];simp only[yr,jM,if_false,if_true];have e1:(0+(n-1)*1:Int)=n-1:=by omega
 rw[e1];exact aY (vY (b_ ⟨_,rfl,h⟩))
theorem zW{r:Addr}{n:Int}{t u v:Tok}{Q:Value->Shared->Prop}(hr:IsRange s.heap r 0 n 1 t u v)(h0:0<=n)(h1:n<2 ^ 62)(h:Q (.ref s.heap.objs.size) { s with heap:=s.heap.push (yj n) }) :
  codeAny (model prog w) A (.call (.builtin "reversed.__new__") ⟨[.type "reversed",.ref r],[]⟩) (wants Q E) s:=by
 have hT:s.TypeIs (.ref r) "range" := ⟨_,hr,rfl⟩;refine codeAny_of_tree ?_;show wpAny _ A.in1 (do checkBuiltinCall "reversed.__new__" ⟨[.type "reversed",.ref r],[]⟩; again (.builtin "reversed.__new__" ⟨[.type "reversed",.ref r],[]⟩)) _ _ s
 refine aY (uO (F.newCall_reversed_1 (.ref r)) (b_ ⟨plainId_quiet F.plain_reversed_new _,codeAny_builtin F.entry_reversed_new ?_⟩));rw[Around.under_plainId F.plain_reversed_new _];unfold Builtin.«reversed.__new__»;refine aY (uO (newClass_reversed (.ref r)) ?_); (try dsimp only)
 refine aY (uO (a:=()) rfl (aY (uO (a:=()) rfl ?_)));refine aY (Di hT PySem.F.slot_range_reversed.lookup ?_); (try dsimp only)
 refine aY (uO (PySem.F.slot_range_reversed.bind _) ?_); (try dsimp only)
 rw[bD (show ¬((Value.builtin "range.__reversed__" == Value.none)=true) from mj)];refine aY (qH (aY (m:=runValue (.call (.builtin "range.__reversed__") ⟨[.ref r],[]⟩)) (show wpAny _ _ (call (.builtin "range.__reversed__") [.ref r]) _ _ _ from zZ hr h0 h1 ?_)))
 first
  | exact b_ h
  | exact aY (b_ (b_ h))
theorem zY{r:Addr}{n:Int}{t u v:Tok}{Q:Value->Shared->Prop}(hr:IsRange s.heap r 0 n 1 t u v)(h0:0<=n)(h1:n<2 ^ 62)(h:Q (.ref s.heap.objs.size) { s with heap:=s.heap.push (yj n) }) :
  wpAny (model prog w) A (call (.type "reversed") [.ref r]) Q E s:=by
 refine callType_other (U:="range_iterator") (Q₁:=fun obj z=>obj=.ref s.heap.objs.size/\z={ s with heap:=s.heap.push (yj n) }) (by decide +kernel) F.create_reversed ⟨_,_,F.mro_reversed⟩ F.made_reversed Mg (F.typeCall_reversed_1 _) (zW hr h0 h1 ⟨rfl,rfl⟩) ?_
 rintro obj z ⟨rfl,rfl⟩;exact⟨⟨_,dF _ rfl,rfl⟩,h⟩
end
def Itv(n:Nat):It:=⟨fun i _=>i<n,fun i H x H'=>H'=H/\x=.int ((n:Int)-1-i),fun i _=>n<=i⟩
theorem Vr{P:Program}{w:World}{K:Frag}{tg:Expr}(it:Addr)(n:Nat):Turn P w K tg (Itv n) [it] it (fun i h=>IsRangeIter h it ((n:Int)-1+(i:Nat)*(-1)) ((n:Int)-(i:Nat)) (-1)) where
 mem:=by simp
 obj:=fun i h st b hb=>by
  rw[fP.mp hb]
  exact⟨_,st,fun v z=>by
   have z':Data.fields _=Data.cell v:=z
   cases z'⟩
 keep:=fun i h h' st k=>k it (by simp) _ st
 item:=by
  intro X hP hw hK hc i ae s σ H E I hf st hg;subst hP hw hK;obtain⟨f0,f1,f2,f3,f4,f5⟩:=hf it (by simp)
  have W:=Walks.range (prog:=X.prog) (w:=X.w) (I.ok.hd hc) it ((n:Int)-1) (-1) n;refine W.item i s _ _ hg st fun v h' tk hv st' kk=>?_;obtain⟨t,rfl⟩:=hv;have I1:Inv X ae σ H { s with heap:=h',toks:=tk }:=I.turned (fun b o hb e=>kk b o (by simpa using hb) e) f0 f1 f3 f4 f5
  refine⟨_,rfl,Q9 (s:={ s with heap:=h',toks:=tk }) (n:="range_iterator") st' rfl rfl ⋯ ⟨.int ((n:Int)-1-i),H,I1,⟨t,?_⟩,⟨rfl,rfl⟩,st',fun b hb=>(hf b hb).1⟩⟩
  congr 1
  omega
 done:=by
  intro X hP hw hK hc i ae s σ H E I hf st hg;subst hP hw hK;obtain⟨f0,f1,f2,f3,f4,f5⟩:=hf it (by simp)
  exact wpAny_pyNext_range_end (I.ok.hd hc) st (by have:n<=i:=hg; omega) fun h' eb=>⟨rfl,I.turned (t':=s.toks) (fun b o hb e=>eb b o hb e) f0 f1 f3 f4 f5⟩
 self:=fun _ _ _ _ _ st h=>Wj st h
section
variable{X:Cx}
theorem K9:bootBuiltins "reversed" = some (.type "reversed"):=by decide +kernel
def ae0(ta:TA):TI:=fun σ H R=>ta σ H fun vs H1=>∃n:Nat,vs=[.int n]/\n<=1000000/\R (Itv n) H1
theorem aci{tg a:Expr}{p p2 pos pos2:Pos}{ta:TA}(hm:X.mg "reversed" = none)(hm2:X.mg "range" = none)(ha:PA X [a] ta)(hg:Gl X "reversed" := by rfl)(hg2:Gl X "range" := by rfl)(h1:cF a=true:=by rfl) :
  PI X tg (.Call (.Name "reversed" p) [.Call (.Name "range" p2) [a] [] pos2] [] pos) (ae0 ta):=by
 symm;intro R I h;refine qY (ir I hg hm K9 ?_ ⋯ ⋯)
 refine PyProof.Rows.callWith_type1 ?_ (cW rfl) (cU (es:=[]) rfl);rw[cW (e:=.Call (.Name "range" p2) [a] [] pos2) rfl];show wpAny _ _ (spliced ((false,eval (.Call (.Name "range" p2) [a] [] pos2) X.env)::backTo pos (starEach [] X.env))) _ _ s;refine Calls.spliced_cons ?_;refine qY (ir I hg2 hm2 K_ ?_ ⋯ ⋯)
 refine PyProof.Rows.callWith_type1 (dI (ha pos2 ae s σ H _ I h) fun us s1 ⟨vs,H1,I1,r1,n,e,hn,q⟩=>?_) (cW h1) (cU (es:=[]) rfl);subst e;obtain⟨u,rfl,t,rfl⟩:=r1.one;refine call_range_1 ?_;refine Calls.spliced_nil ?_;refine zY (IsRange.new ..) ∅ ∅ ?_
 have k2:∀b o,s1.heap.get? b=some o->((s1.heap.push { cls:=.type "range",data:=.fields #[.int 0 s1.toks,.int (n:Int) t,.int 1 (s1.toks+1)] }).push (yj n)).get? b=some o:=fun b o e=>dJ _ (dJ _ e);have I2:=I1.kept (t':=s1.toks+1+1) k2;generalize hh:s1.heap.push { cls:=.type "range",data:=.fields #[.int 0 s1.toks,.int (n:Int) t,.int 1 (s1.toks+1)] }=h1' at I2 ⊢;have sz:s1.heap.objs.size<=h1'.objs.size:=by rw[<- hh,iQ]; exact Nat.le_succ _
 have st:IsRangeIter (h1'.push (yj n)) h1'.objs.size ((n:Int)-1+((0:Nat):Int)*(-1)) ((n:Int)-((0:Nat):Int)) (-1):=by
  have e1:(n:Int)-1+((0:Nat):Int)*(-1)=(n:Int)-1:=by simp
  have e2:(n:Int)-((0:Nat):Int)=n:=by simp
  rw[e1,e2];exact dF _ rfl
 refine Wj (s:={ s1 with heap:=h1'.push (yj n),toks:=s1.toks+1+1 }) (by exact st) ⟨h1'.objs.size,[h1'.objs.size],_,Itv n,H1,rfl,I2,Vr _ n,st,fun b hb=>?_,q⟩
 rw[fP.mp hb];exact I1.rF sz (I1.hok.fresh sz)
def VK'(g:TG)(tb:TS)(D:Ends)(σ:St)(vs:List V)(H1:Hp):Prop:=∃n:Nat,vs=[.int n]/\n<=1000000/\∃W:Nat->Nat->St->Hp->Prop,(∃m,W 0 m σ H1)/\∀i m σ H,W i m σ H ->
 ((Itv n).stop i H/\D.nx σ H)\/((Itv n).go i H/\∃N:St->Hp->Prop,(∀σ' H',N σ' H'->∃m',m'<m/\W (i+1) m' σ' H')/\∀x H',(Itv n).xj i H x H'->g x σ H' fun σ2 H2=>tb { D with nx:=N,ct:=N,bk:=D.nx } σ2 H2)
theorem Vy{ta:TA}{g:TG}{tb:TS}{D:Ends}{σ:St}{H:Hp}:Aq (ae0 ta) g tb D σ H=ta σ H (VK' g tb D σ):=rfl
theorem VK'.of{g:TG}{tb:TS}{D:Ends}{σ:St}{H:Hp}{n:Nat}{i:Int}(ei:i=n)(hn:n<=1000000)(Pv:Nat->St->Hp->Prop)(h0:Pv 0 σ H)
  (hs:∀i σ H,i<n->Pv i σ H->g (.int ((n:Int)-1-(i:Nat))) σ H fun σ2 H2=>tb { D with nx:=Pv (i+1),ct:=Pv (i+1),bk:=D.nx } σ2 H2) (hd:∀σ H,Pv n σ H->D.nx σ H):VK' g tb D σ [.int i] H:=by
 subst ei;refine⟨n,rfl,hn,fun i m σ H=>m=n-i/\i<=n/\Pv i σ H,⟨n,rfl,fG _,h0⟩,?_⟩;rintro i m σ H ⟨rfl,hi,p⟩;by_cases hlt:i<n
 ·refine .inr ⟨hlt,Pv (i+1),fun σ' H' p'=>⟨n-(i+1),∅,rfl,hlt,p'⟩,fun x H' y=>?_⟩
  obtain⟨e1,e2⟩:=y;subst e1 e2;exact hs i σ _ hlt p
 ·have e:i=n:=by omega
  subst e;exact .inl ⟨dM _,hd σ H p⟩
end
structure Aj(K:Frag)(x qual:Str)(st:Stmt)(f:Addr)(fd:FuncData)(T:Addr)(i:Int)(t:Tok):Prop where
 ex:∃(oc:Value)(od:Option Addr)(kV doc pm:Value)(an:Option Addr)(cdv ct:Value)(osl:Array (Option Value)),
  fd=fnOf x qual (gk st) (eU st) (aK st) (.ref T) kV doc pm an cdv ct/\K.lookup f=some ⟨oc,od,.func fd,osl⟩/\codeIn K cdv qual=true
 kp:keepIn K (.ref f)=true
 df:∃o n,K.lookup T=some o/\o.data=.seq #[.int i t] n
section
variable{P:Program}{w:World}{K:Frag}{mg:Str->Option Value}{base:Heap}
theorem Aj.ok{x qual:Str}{st:Stmt}{f T:Addr}{i:Int}{t:Tok}{fd:FuncData}{N ps:List Str}{k:Nat}{sp:Sp}(F:Aj K x qual st f fd T i t)(S:a_ N ps (aK st))(len:∀vs H Q E,sp vs H Q E->vs.length=ps.length)
  (hb:∀(cdv:Value)(A:Around)(outer:List Env)(s:Shared)(H:Hp)(vs:List V)(Q:VK)(E:XK),jm k (A.deeper (envOfC qual (aK st) s.heap.objs.size f cdv))->sp vs H Q E ->
   ∃t,BK (iH iJ P w K mg base N qual (aK st) f cdv A outer s H E).nox (eU st) t/\t { nx:=fun _ H'=>Q .non H',rt:=Q } (start N vs) H):bZ P w K mg base iJ (k+1) f fd ps sp:=by
 obtain⟨oc,od,kV,doc,pm,an,cdv,ct,osl,rfl,lk,hcd⟩:=F.ex;exact abv lk hcd S len fun A outer s H vs Q E hr hsp=>let ⟨t,h,q⟩:=hb cdv A outer s H vs Q E hr hsp; ⟨t,h.nox,q⟩
theorem Aj.binds{x qual:Str}{st:Stmt}{f T:Addr}{i:Int}{t:Tok}{fd:FuncData}{ps:List Str}{ds:List Value}(F:Aj K x qual st f fd T i t)
  (h:∀(kV doc pm:Value)(an:Option Addr)(cdv ct:Value)(us:List Value),(us++ds).length=ps.length->∃k,bindArgs (fnOf x qual (gk st) (eU st) (aK st) (.ref T) kV doc pm an cdv ct) ⟨us,[]⟩=seqItems? (.ref T) >>= k/\k (some #[.int i t])=pure (ps.zip (us++ds))):Binds K fd ps ds:=by
 obtain⟨oc,od,kV,doc,pm,an,cdv,ct,osl,rfl,lk,hcd⟩:=F.ex;obtain⟨o,n,ho,hd⟩:=F.df;intro s us KX hl;obtain⟨k,h1,h2⟩:=h kV doc pm an cdv ct us hl;exact BindsTo.of_defaults rfl (KX _ _ ho) hd h1 h2
end
structure CtD(P:Program)(w:World)(K:Frag)(mg:Str->Option Value)(base:Heap)(k:Nat)(x:Str)(ps:List Str)(i:Int)(sp:Sp) where
 f:Addr
 fd:FuncData
 t:Tok
 G:bZ P w K mg base iJ k f fd ps sp
 kp:keepIn K (.ref f)=true
 b:Binds K fd ps []
 bd:Binds K fd ps [.int i t]
 m:mg x=some (.ref f)
def CtD.mono{P:Program}{w:World}{K:Frag}{mg:Str->Option Value}{base:Heap}{j k:Nat}{x:Str}{ps:List Str}{i:Int}{sp:Sp}(c:CtD P w K mg base j x ps i sp)(h:j<=k):CtD P w K mg base k x ps i sp:={ c with G:=c.G.mono h }
section
variable{X:Cx}{x:Str}{p pos:Pos}{e:Expr}{es:List Expr}{t:TA}
theorem pfd{k:Nat}{ps:List Str}{i:Int}{sp:Sp}(c:CtD X.prog X.w X.K X.mg X.base k x ps i sp)(hr:jm k X.A)(ha:PA X (e::es) t)(hg:Gl X x:=by rfl)(hdb:(x==("__debug__" : Str))=false:=by decide)(h1:cF e=true:=by rfl)(h2:es.all cF=true:=by rfl) :
  PE X (.Call (.Name x p) (e::es) [] pos) (rY sp [.int i] E0 t):=Qx c.G hr hg c.m c.kp c.bd (.cons ⟨_,rfl⟩ .nil) abi ha hdb (cW h1) (cU h2)
end
section
variable{X:Cx}
end
def LK(K:Frag)(g:TG)(tb:TS)(D:Ends)(σ:St)(x:V)(H1:Hp):Prop:=∃a,x=.ref a/\(∃xs,d7 K H1 a xs)/\∃W:Nat->Nat->St->Hp->Prop,(∃m,W 0 m σ H1)/\∀i m σ H,W i m σ H ->
 ((Itl K a).stop i H/\D.nx σ H)\/((Itl K a).go i H/\∃N:St->Hp->Prop,(∀σ' H',N σ' H'->∃m',m'<m/\W (i+1) m' σ' H')/\∀x H',(Itl K a).xj i H x H'->g x σ H' fun σ2 H2=>tb { D with nx:=N,ct:=N,bk:=D.nx } σ2 H2)
theorem nW{K:Frag}{tl:TE}{g:TG}{tb:TS}{D:Ends}{σ:St}{H:Hp}:Aq (zy K tl) g tb D σ H=tl σ H (LK K g tb D σ):=rfl
theorem LK.of{K:Frag}{g:TG}{tb:TS}{D:Ends}{σ:St}{H:Hp}{a:Addr}{xs:List V}(ha:H a=some (.lst xs))(Pv:Nat->St->Hp->Prop)(h0:Pv 0 σ H)(hl:∀i σ H',i<=xs.length->Pv i σ H'->H' a=some (.lst xs))
  (hs:∀i x σ H,xs[i]?=some x->Pv i σ H->g x σ H fun σ2 H2=>tb { D with nx:=Pv (i+1),ct:=Pv (i+1),bk:=D.nx } σ2 H2) (hd:∀σ H,Pv xs.length σ H->D.nx σ H):LK K g tb D σ (.ref a) H:=
 ⟨a,rfl,⟨xs,d7.of ha⟩,X3 (xs:=xs) Pv h0 (fun i σ H' hi p=>d7.of (hl i σ H' hi p)) hs hd⟩
end L2
namespace L2
open PySem
mutual
def kE:PyData->Bool
 | .tuple ds=>bJ ds
 | .list _=>false
 | .dict _=>false
 | .none=>true
 | .bool _=>true
 | .int _=>true
 | .str _=>true
def bJ:List PyData->Bool
 | []=>true
 | d::ds=>kE d&&bJ ds
end
theorem cL:∀{ds:List PyData},bJ ds=true↔∀d∈ds,kE d=true
 | []=>by simp[bJ]
 | d::ds=>by
  have ih:=cL (ds:=ds);simp only[bJ,Gg,ih,bT,forall_eq_or_imp]
mutual
theorem At.pG{G:Hp}{p:Addr}{xs:List V}(hp:G p=some (.lst xs)):∀(d:PyData)(v:V),kE d=true->At G d v->At (hid p G) d v
 | .none,_,_,h=>by unfold At at h ⊢; exact h
 | .bool _,_,_,h=>by unfold At at h ⊢; exact h
 | .int _,_,_,h=>by unfold At at h ⊢; exact h
 | .str _,_,_,h=>by unfold At at h ⊢; exact h
 | .tuple ds,v,n,h=>by
  unfold At at h ⊢;obtain⟨a,ys,e,h1,h2⟩:=h;refine⟨a,ys,e,?_,ak.pG hp ds ys (by simpa[kE] using n) h2⟩
  rw[dh (fun z=>by subst z; rw[hp] at h1; cases h1)]; exact h1
 | .list _,_,n,_=>by simp[kE] at n
 | .dict _,_,n,_=>by simp[kE] at n
theorem ak.pG{G:Hp}{p:Addr}{xs:List V}(hp:G p=some (.lst xs)):∀(ds:List PyData)(ys:List V),bJ ds=true->ak G ds ys->ak (hid p G) ds ys
 | [],_,_,h=>by unfold ak at h ⊢; exact h
 | d::ds,ys,n,h=>by
  unfold ak at h ⊢;obtain⟨x,r,e,h1,h2⟩:=h;have n':kE d=true/\bJ ds=true:=by simpa[bJ] using n
  exact⟨x,r,e,At.pG hp d x n'.1 h1,ak.pG hp ds r n'.2 h2⟩
end
theorem Fy:∀l:List Int,(∀c∈l,0<=c)->0<=l.sum
 | [],_=>by simp
 | x::l,h=>by rw[List.sum_cons]; have:=Fy l fun c hc=>h c (iR _ hc); have:=h x jw; omega
theorem DN:∀ws:List Int,PyData.hasDictAll (ws.map .int)=false/\PyData.canLayAll0 (ws.map .int)=true/\PyData.depthAll (ws.map .int)=0
 | []=>⟨rfl,rfl,rfl⟩
 | w::ws=>by
  obtain⟨h1,h2,h3⟩:=DN ws;refine⟨?_,?_,?_⟩
  ·show(PyData.hasDict (.int w) || PyData.hasDictAll (ws.map .int))=false;rw[h1]; rfl
  ·show(PyData.canLay0 (.int w)&&PyData.canLayAll0 (ws.map .int))=true;rw[h2]; rfl
  ·show max (PyData.depth (.int w)) (PyData.depthAll (ws.map .int))=0;rw[h3]; rfl
theorem aad{xs ys:List V}{p q:Addr}{H:Hp}{Q:VK}(e:H p=some (.lst xs))(e2:H q=some (.tup ys))(z:xs.length+ys.length<=sizeLine)(k:∀r H',aF H H'->H' r=some (.lst (xs++ys))->Q (.ref r) H') :
  ∃p_2 ys',[V.ref q]=[V.ref p_2]/\H p_2=some (.tup ys')/\∀l,H l=none->Jv (.ref p) (.ref l) (upd H l (.lst ys')) Q:=by
 refine⟨q,ys,rfl,e2,fun l hl=>?_⟩;have s1:=aM hl (HO.lst ys);refine⟨p,l,xs,ys,rfl,rfl,s1 _ _ e,aD,z,fun r hr=>?_⟩;exact k r _ (s1.trans (aM hr _)) aD
theorem take_snoc{α:Type}{l:List α}{i:Nat}{c:α}(h:l[i]?=some c):l.take (i+1)=l.take i++[c]:=by
 obtain⟨hi,e⟩:=gC.mp h;rw[List.take_succ_eq_append_getElem hi,e]
theorem SX.same{p:Addr}{H H':Hp}(hp:H p=none)(s:SX p H H'):aF H H':=fun b o h=>by
 have hb:b≠p:=fun z=>by rw[z,hp] at h; cases h
 exact s.get hb h
theorem Dq{ts:List Str}{i:Int}(h0:0<=i)(h1:i<ts.length):∃t,t∈ts/\Ik (ts.map V.str) i=some (.str t):=by
 have hi:i.toNat<ts.length:=by omega
 refine⟨ts[i.toNat],Gh hi,?_⟩;have:=bw (xs:=ts.map V.str) (j:=i.toNat) (v:=.str ts[i.toNat]) (by rw[g_,gm hi]; rfl)
 rwa [show((i.toNat:Nat):Int)=i by omega] at this
theorem p_{ts:List Int}{i:Int}(h0:0<=i)(h1:i<ts.length):∃t,t∈ts/\Ik (ts.map V.int) i=some (.int t):=by
 have hi:i.toNat<ts.length:=by omega
 refine⟨ts[i.toNat],Gh hi,?_⟩;have:=bw (xs:=ts.map V.int) (j:=i.toNat) (v:=.int ts[i.toNat]) (by rw[g_,gm hi]; rfl)
 rwa [show((i.toNat:Nat):Int)=i by omega] at this
def eV(a b:TS):TS:=Vv a b
theorem PL(i:Nat){e:TE}{b:TS}:Vv (Jc e (fV i)) b=eV (Jc e (fV i)) b:=rfl
theorem Jo{c:TT}{x y b:TS}:Vv (Zj c x y) b=eV (Zj c x y) b:=rfl
theorem eV.of{a b:TS}{D:Ends}{σ:St}{H:Hp}(R:St->Hp->Prop)(hR:∀σ' H',R σ' H'->b D σ' H')(h:∀N:St->Hp->Prop,(∀σ' H',R σ' H'->N σ' H')->a { D with nx:=N } σ H):eV a b D σ H:=h _ hR
theorem eV.on{a b:TS}{D:Ends}{σ:St}{H:Hp}(hR:∀H',aF H H'->b D σ H')(h:∀N:St->Hp->Prop,(∀H',aF H H'->N σ H')->a { D with nx:=N } σ H):eV a b D σ H:=
 eV.of (fun σ' H'=>σ'=σ/\aF H H') (fun σ' H' z=>by rw[z.1]; exact hR H' z.2) fun N hN=>h N fun H' s=>hN _ _ ⟨rfl,s⟩
theorem Xg{α:Type}{l:List α}(h:l.length=3):∃a b c,l=[a,b,c]:=by
 match l,h with
 | [a,b,c],_=>exact⟨a,b,c,rfl⟩
theorem aah{α:Type}{l:List α}(h:l.length=5):∃a b c d e,l=[a,b,c,d,e]:=by
 match l,h with
 | [a,b,c,d,e],_=>exact⟨a,b,c,d,e,rfl⟩
theorem aF.kY{H H':Hp}{p:Addr}{o:HO}(s:aF H H')(hp:H p=none):aF H (upd H' p o):=fun b u h=>by rw[aP (bV h hp)]; exact s _ _ h
def qI:PyData->Bool
 | .list _=>true
 | _=>false
theorem Ha(K:Frag)(d:PyData):kitOne K (.type (UL d)) (.type "list")=some (qI d):=by cases d <;> kernel_rfl
theorem Q3{X:Cx}:cZ X (.builtin "isinstance") (Ms "list" qI):=zr Ha
theorem j4{ds:List PyData}(h:bJ ds=true){i:Nat}{d:PyData}(e:ds[i]?=some d):kE d=true:=cL.mp h d (jx e)
theorem Rj{K:Frag}{js:List Nat}{a:Addr}{xs:List V}{es:List PyData}{tl te:TE}{σ:St}{H:Hp}{Q:VK}(hl:∀R:VK,R (.ref a) H->tl σ H R)(ha:H a=some (.lst xs))(hn:es.length=xs.length)(hz:es.length<=sizeLine)(hL:bJ es=true)
  (step:∀(i:Nat) x e H',xs[i]?=some x->es[i]?=some e->aF H H'->∀R:VK,(∀v dH,aF H' dH->At dH e v->R v dH)->te (some x::cg js σ) H' R)
  (fin:∀acc ys H',aF H H'->H acc=none->H' acc=some (.lst ys)->ak (hid acc H') es ys->Q (.ref acc) H'):jr js (zy K tl) te σ H Q:=by
 refine hl _ ⟨a,rfl,⟨xs,d7.of ha⟩,fun acc hacc=>?_⟩;refine⟨fun i m ys H2=>m=es.length-i/\i<=es.length/\ak (hid acc H2) (es.take i) ys/\aF H H2/\H2 acc=some (.lst ys),⟨_,rfl,fG _,ak.nil,aM hacc _,aD⟩,?_⟩;rintro i m ys H2 ⟨rfl,hi,hA,sm,hy⟩;have ht:d7 K H2 a xs:=d7.of (sm _ _ ha);by_cases hlt:i<es.length
 ·refine .inr ⟨⟨xs,xs[i]'∅,ht,gm ∅⟩,fun x H3 y=>?_⟩
  obtain⟨e,y⟩:=y;subst e;have e1:es[i]?=some es[i]:=gm hlt;refine step i x _ _ (y xs ht) e1 sm _ fun v H4 s4 a4=>⟨s4 _ _ hy,?_,es.length-(i+1),∅,rfl,hlt,?_,?_,aD⟩
  ·rw[hA.length,jV]; omega
  ·rw[iV,Ge,e1];exact ak.append (hA.mono (aF.hid s4)) (ak.cons (At.pG (s4 _ _ hy) _ _ (j4 hL e1) a4) ak.nil)
  ·refine fun b o q=>?_;have nb:b≠acc:=bV q hacc;rw[aP nb];exact s4 _ _ (sm _ _ q)
 ·have e:i=es.length:=by omega
  subst e;rw[mY] at hA;exact .inl ⟨⟨xs,ht,∅⟩,fin _ _ _ sm hacc hy hA⟩
end L2
namespace L2
open PySem PySem.Spec PyProof.Rows
def lJ:Int->List Int->Int
 | b,[]=>b
 | b,x::l=>lJ (if x<b then x else b) l
theorem Dt:∀(l:List Int)(b x:Int),lJ b (l++[x])=if x<lJ b l then x else lJ b l
 | [],b,x=>rfl
 | y::l,b,x=>by
  show lJ (if y<b then y else b) (l++[x])=_
  rw[Dt l]; rfl
theorem Rp(val:Nat->Int):∀k,val (argBest (fun i j=>decide (val i<val j)) k)=lJ (val 0) ((List.range k).map fun i=>val (i+1))
 | 0=>rfl
 | k+1=>by
  have ih:=Rp val k;rw[yG,iZ];show val (if decide (val (k+1)<val (argBest _ k))=true then k+1 else argBest _ k)=lJ (val 0) (_++[val (k+1)])
  rw[Dt,<- ih];by_cases h:val (k+1)<val (argBest (fun i j=>decide (val i<val j)) k)
  ·rw[aL (ju h),aL h]
  ·rw[bD (by rw[jL h]; decide),bD h]
section
variable{X:Cx}
theorem Ed(hc:X.calm=true):cZ X (.builtin "min") (fun vs H Q=>∃(p:Addr)(b:Int)(r:List Int),vs=[.ref p]/\H p=some (.lst ((b::r).map V.int))/\Q (.int (lJ b r)) H):=by
 symm;intro vs us Q I r h;obtain⟨p,b,rs,rfl,hp,q⟩:=h;obtain⟨u,rfl,ru⟩:=r.one;cases ru;obtain⟨_,its,n,rv,e⟩:=I.hok p _ hp;obtain⟨e1,e2⟩:=rE rv;have hl:s.heap.IsList p (intItems (its.map pairOf).toArray):=by rw[<- e1]; exact⟨_,e,rfl,n,rfl⟩
 have hlen:=rv.length;rw[bW] at hlen
 have na:∀i,numAt (its.map pairOf).toArray i=(b::rs).getD i 0:=fun i=>by
  unfold numAt;rw[<- e2,fD];simp;rfl
 refine min_intList (I.ok.hd hc) hl (by simp; rw[<- hlen]; simp) fun v h' tk hv k=>?_
 obtain⟨t,rfl⟩:=intItems_at hv;refine⟨.int (lJ b rs),H,I.kept (t':=tk) k,⟨t,?_⟩,q⟩;have:=Rp (numAt (its.map pairOf).toArray) ((its.map pairOf).toArray.size-1);rw[this]
 congr 1
 have sz:(its.map pairOf).toArray.size-1=rs.length:=by simp; rw[<- hlen]; simp
 rw[sz,na 0];show lJ b _=_
 congr 1
 apply Dj
 ·simp
 ·intro i h1 h2;simp at h1 h2;rw[List.getElem_map,JX,na (i+1)];simp[fD,h2]
end
structure jH(X:Cx)(nt:Nat)(N':List Str)(js:List Nat)(sc:Scope):Prop where
 kind:sc.kind=.function
 jg:∀y∈sc.names,y.2≠.cell
 names:∀y∈sc.names,y.2=.local->sc.names.lookup y.1=some .local
 clos:closureFor sc X.env=pure (rJ sc X.env)
 all:(sc.names.all fun y=>y.2 != .free || (X.env.cells.lookup y.1).isSome)=true
 len:N'.length=nt+js.length
 cap:∀(i j:Nat),js[i]?=some j->N'[nt+i]?=X.N[j]?
 Yo:∀y∈N'.drop nt,X.env.kindOf y=some .cell/\sc.names.lookup y=some .free
theorem zX:∀(names:List (Str×NameKind))(h:Heap)(acc:List (Str×Addr))(x:Str)(c:Addr),(cellsFrom h.objs.size names acc).lookup x=some c->((pushCells h names).IsCell c none/\h.objs.size<=c)\/(acc.lookup x=some c/\(x,NameKind.cell)∉names)
 | [],h,acc,x,c,e=>.inr ⟨e,by simp⟩
 | (name,kind)::r,h,acc,x,c,e=>by
  unfold cellsFrom at e;unfold pushCells;split at e
  ·rename_i hk;have hk':kind=.cell:=by simpa using hk
   rw[aL hk];have:=zX r (h.push { cls:=.type "cell",data:=.cell none }) ((name,h.objs.size)::acc) x c (by rw[iQ]; exact e)
   rw[iQ] at this;rcases this with⟨z,z'⟩ | ⟨z,z'⟩
   ·exact .inl ⟨z,∅⟩
   ·rw[uQ] at z;cases hx:x==name with
    | true=>
     rw[hx] at z;cases z;refine .inl ⟨?_,dM _⟩;exact⟨_,pushCells_keeps r _ _ _ (dF _ rfl),rfl⟩
    | false=>
     rw[hx] at z;refine .inr ⟨z,fun m=>?_⟩;rcases bT.mp m with q | q
     ·have:x=name:=(Prod.mk.inj q).1;simp[this] at hx
     ·exact z' q
  ·rename_i hk;rw[bD hk];rcases zX r h acc x c e with z | ⟨z,z'⟩
   ·exact .inl z
   ·refine .inr ⟨z,fun m=>?_⟩;rcases bT.mp m with q | q
    ·exact hk (by rw[<- (Prod.mk.inj q).2]; rfl)
    ·exact z' q
theorem Ou:∀(names:List (Str×NameKind))(n:Nat)(acc:List (Str×Addr)),(∀x y c,acc.lookup x=some c->acc.lookup y=some c->x=y)->(∀x c,acc.lookup x=some c->c<n) ->
  (∀x y c,(cellsFrom n names acc).lookup x=some c->(cellsFrom n names acc).lookup y=some c->x=y)/\True
 | [],n,acc,h,_=>⟨h,trivial⟩
 | (name,kind)::r,n,acc,h,hb=>by
  unfold cellsFrom;split
  ·refine Ou r (n+1) ((name,n)::acc) (fun x y c e1 e2=>?_) (fun x c e=>?_)
   ·rw[uQ] at e1 e2;cases hx:x==name with
    | true=>
     rw[hx] at e1;cases e1;cases hy:y==name with
     | true=>rw[beq_iff_eq.mp hx,beq_iff_eq.mp hy]
     | false=>rw[hy] at e2; exact absurd (hb _ _ e2) (uP _)
    | false=>
     rw[hx] at e1;cases hy:y==name with
     | true=>rw[hy] at e2; cases e2; exact absurd (hb _ _ e1) (uP _)
     | false=>rw[hy] at e2; exact h x y c e1 e2
   ·rw[uQ] at e;cases hx:x==name with
    | true=>rw[hx] at e; cases e; exact JR _
    | false=>rw[hx] at e; exact Dl (hb _ _ e)
  ·exact Ou r n acc h hb
theorem Ov{x:Str}:∀(names:List (Str×NameKind))(n:Nat)(acc:List (Str×Addr)),((x,NameKind.cell)∈names\/(acc.lookup x).isSome=true)->((cellsFrom n names acc).lookup x).isSome=true
 | [],n,acc,h=>by
  rcases h with h | h
  ·simp at h
  ·exact h
 | (name,kind)::r,n,acc,h=>by
  unfold cellsFrom;split
  ·rename_i hk;refine Ov r (n+1) _ ?_;rcases h with h | h
   ·rcases bT.mp h with q | q
    ·refine .inr ?_;rw[uQ,(Prod.mk.inj q).1];simp
    ·exact .inl q
   ·refine .inr ?_;rw[uQ];split
    ·rfl
    ·exact h
  ·rename_i hk;refine Ov r n acc ?_;rcases h with h | h
   ·rcases bT.mp h with q | q
    ·exact absurd (by rw[<- (Prod.mk.inj q).2]; rfl) hk
    ·exact .inl q
   ·exact .inr h
theorem Hr{x:Str}{c:Addr}:∀(names:List (Str×NameKind))(n:Nat)(acc:List (Str×Addr)),(x,NameKind.cell)∉names->acc.lookup x=some c->(cellsFrom n names acc).lookup x=some c
 | [],n,acc,_,e=>e
 | (name,kind)::r,n,acc,h,e=>by
  unfold cellsFrom;split
  ·rename_i hk;refine Hr r (n+1) _ (fun m=>h (iR _ m)) ?_;rw[uQ];cases hx:x==name with
   | true=>
    have hk':kind=.cell:=by simpa using hk
    exact absurd (by rw[beq_iff_eq.mp hx,hk']; exact jw) h
   | false=>exact e
  ·exact Hr r n acc (fun m=>h (iR _ m)) e
theorem An{M:Model}{A:Around}{E:Value->Shared->Prop}{s:Shared}{scope:Scope}{globals:Addr}{cl:List (Str×Addr)}{qual:Str}{env:Env}{Q:Env->Shared->Prop}
  (hQ:Q { scope,locals:=s.heap.objs.size,globals,cells:=cellsFrom (s.heap.objs.size+1) scope.names cl,qual,func:=none,code:=env.code,frame:=env.frame,builtins:=env.builtins } { s with heap:=pushCells (s.heap.push { cls:=.type "dict",data:=.dict #[] }) scope.names }) :
  wpAny M A (newFunctionEnv scope globals cl [] qual none .none (some env)) Q E s:=by
 simp only[newFunctionEnv,Option.isSome_some,if_true];refine aY (wpAny_alloc ?_);refine aY (wpAny_layCells _ (fun name kind cells=>by cases hkc:kind==NameKind.cell <;> simp[hkc]) _ _ _ _ ?_)
 rw[show({ s with heap:=s.heap.push { cls:=.type "dict",data:=.dict #[] } }:Shared).heap.objs.size=s.heap.objs.size+1 from iQ ..]
 simp only[List.forIn_nil];exact aY (b_ (b_ hQ))
def Hm(X:Cx)(N':List Str)(sc:Scope)(fp:List Addr)(s:Shared)(H:Hp):Cx where
 prog:=X.prog
 w:=X.w
 K:=X.K
 mg:=X.mg
 base:=X.base
 A:=X.A
 N:=N'
 s₀:=s
 H₀:=H
 env:=compEnvC sc (cellsFrom (s.heap.objs.size+1) sc.names (rJ sc X.env)) s.heap.objs.size X.env
 outer:=X.stack
 stack:=X.stack
 ex:=fp
 fn:=fun y=>sc.names.lookup y==some .cell
 calm:=X.calm
 pn:=[]
 xe:=fun _ _=>False
structure YG(X:Cx)(nt:Nat)(N':List Str)(js:List Nat)(sc:Scope):Prop where
 kind:sc.kind=.function
 cells:∀y∈sc.names,y.2=.cell->sc.names.lookup y.1=some .cell
 names:∀y∈sc.names,y.2=.local->sc.names.lookup y.1=some .local
 clos:closureFor sc X.env=pure (rJ sc X.env)
 all:(sc.names.all fun y=>y.2 != .free || (X.env.cells.lookup y.1).isSome)=true
 len:N'.length=nt+js.length
 cap:∀(i j:Nat),js[i]?=some j->N'[nt+i]?=X.N[j]?
 Yo:∀y∈N'.drop nt,X.env.kindOf y=some .cell/\sc.names.lookup y=some .free
theorem DK{X:Cx}{ae:List (Addr×Obj)}{σ:St}{H:Hp}{s:Shared}{fp:List Addr}{N':List Str}{js:List Nat}{sc:Scope}{nt:Nat}{h1:Heap}{tk:Nat}(I:Inv X ae σ H s)(hf:∀b∈fp,g8 X ae H b)(hlt:∀b∈fp,b<s.heap.objs.size)
  (S:YG X nt N' js sc) (Hs:∀{x:Str}{c:Addr},(cellsFrom (s.heap.objs.size+1) sc.names (rJ sc X.env)).lookup x=some c->(h1.IsCell c none/\s.heap.objs.size<c)\/((rJ sc X.env).lookup x=some c/\(x,NameKind.cell)∉sc.names)) (hn:h1.Ns s.heap.objs.size fun _=>none) (hk:∀b o,s.heap.get? b=some o->h1.get? b=some o):Inv (Hm X N' sc fp s H) [] (List.replicate nt none++cg js σ) H { s with heap:=h1,toks:=tk }:=by
 have old:∀x c,(rJ sc X.env).lookup x=some c->c<s.heap.objs.size+1:=fun x c e=>by
  obtain⟨v,o,ho,_⟩:=I.cell x c (jj e);exact Dl (cI ho)
 refine⟨⟨I.ok.mod,S.kind,I.ok.glob,I.ok.blt,dM _,fun x y c e1 e2=>(Ou sc.names _ _ (fun x y c e1 e2=>I.ok.inj x y c (jj e1) (jj e2)) old).1 x y c e1 e2,fun x hx=>?_,fun x c hf' e=>(by
   rcases Hs e with z | ⟨_,z⟩
   ·exact jK z.2
   ·exact absurd (PySem.mem_of_lookup (show sc.names.lookup x=some .cell from by simpa using(show(sc.names.lookup x==some NameKind.cell)=true from hf'))) z),I.ok.hd,I.ok.frames,.inl rfl,fun b hb=>⟨gB (hlt b hb),fun x c e=>(by
   rcases Hs e with z | ⟨z,_⟩
   ·exact JG (JF (hlt b hb) z.2)
   ·exact(hf b hb).2.2.2.2.1 x c (jj z))⟩,I.bs,
  qt I.ok.U7 I.sz,fun b o e hb=>?_,fun b hb z=>?_,I.stack,I.wK⟩,rfl,I.bare,Un.kept hk,⟨fun _=>none,hn,fun i x v e1 e2 e3=>?_⟩,fun x c e=>?_,I.hok.fresh (dM _),fun x c e=>(by
   rcases Hs e with z | ⟨z,_⟩
   ·exact I.hok.fresh (jK z.2)
   ·exact I.kW x c (jj z)),fun p hp=>absurd (show p∈([]:List (Addr×Obj)) from hp) (by simp),I.hok.kept hk,?_⟩
 ·refine Bb.mp (Ov sc.names _ _ ?_);have hx':(relabel sc X.env).names.lookup x=some .cell\/(relabel sc X.env).names.lookup x=some .free:=hx
  have key:(x,NameKind.cell)∈sc.names\/(x,NameKind.free)∈sc.names:=by
   rcases hx' with q | q
   ·obtain⟨k,hm,e | ⟨e,_⟩⟩:=vK q
    ·rw[<- e] at hm; exact .inl hm
    ·refine .inr ?_; rw[<- e]; exact hm
   ·refine .inr ?_;obtain⟨k,hm,e | ⟨e,_⟩⟩:=vK q
    ·rw[e]; exact hm
    ·rw[<- e]; exact hm
  rcases key with key | key
  ·exact .inl key
  have a:=yw.mp S.all _ key;have a':(X.env.cells.lookup x).isSome=true:=by simpa using a
  obtain⟨c,hc⟩:=Bb.mp a';exact .inr (Bb.mpr ⟨c,Oo hc sc.names [] key⟩)
 ·rcases(hf b hb).2.2.2.1 with z | z
  ·exact I.ok.Kl b o e z
  ·exact absurd (lF (cI e) (qt I.ok.U7 z)) (uP _)
 ·rcases bT.mp (I.Mh b z) with q | q
  ·exact(hf b hb).2.1 q
  ·exact(hf b hb).2.2.1 q
 ·by_cases hlt:i<nt
  ·rw[v8 (by rw[JB]; exact hlt),Wk,aL hlt] at e2
   cases e2
  ·obtain⟨i',rfl⟩:∃i',i=nt+i':=⟨i-nt,∅⟩
   rw[tE (by rw[JB]; omega),JB,Nat.add_sub_cancel_left] at e2
   have e2':(cg js σ)[i']?=some (some v):=e2;unfold cg at e2';rw[g_] at e2';cases hj:js[i']? with
   | none=>rw[hj] at e2'; simp at e2'
   | some j=>
    rw[hj] at e2';have e4:(σ[j]?).join=some v:=by simpa using e2'
    have e5:σ[j]?=some (some v):=by
     cases q:σ[j]? with
     | none=>rw[q] at e4; simp at e4
     | some z=>rw[q] at e4; simp at e4; rw[e4]
    have e6:X.N[j]?=some x:=by rw[<- S.cap i' j hj]; exact e1
    have mem:x∈N'.drop nt:=by
     have e1':N'[nt+i']?=some x:=e1;exact jx (i:=i') (by rw[JW]; exact e1')
    obtain⟨k1,k2⟩:=S.Yo x mem;obtain⟨m,_,hl⟩:=I.loc;obtain⟨u,r,l⟩:=hl j x v e6 e5 (.inr (.inl k1));refine⟨u,r,.inr ⟨.inl (sY I.ok.kind k1 sc.names k2),?_⟩⟩;rcases l with⟨z,_⟩ | ⟨_,c,hc,hcell⟩
    ·rw[k1] at z; cases z
    ·obtain⟨o,ho,hd⟩:=hcell;exact⟨c,Hr sc.names _ _ (fun z=>by have:=S.cells _ z rfl; rw[k2] at this; cases this) (Oo hc sc.names [] (PySem.mem_of_lookup k2)),o,hk c o ho,hd⟩
 ·rcases Hs e with z | ⟨z,_⟩
  ·exact⟨none,z.1⟩
  ·obtain⟨v,o,ho,hd⟩:=I.cell x c (jj z);exact⟨v,o,hk c o ho,hd⟩
 ·show(List.replicate nt none++cg js σ).length=N'.length;rw[S.len]; simp[cg]
theorem Hq:∀{names:List (Str×NameKind)}{n:Nat}{acc:List (Str×Addr)},(∀y∈names,y.2≠.cell)->cellsFrom n names acc=acc
 | [],_,_,_=>rfl
 | (name,kind)::r,n,acc,h=>by
  unfold cellsFrom;rw[bD (fun z=>h _ jw (by simpa using z))]
  exact Hq fun y hy=>h y (iR _ hy)
theorem zR{X:Cx}{N':List Str}{sc:Scope}{fp:List Addr}{s:Shared}{H:Hp}(h:∀y∈sc.names,y.2≠.cell):rG X N' sc fp s H=Hm X N' sc fp s H:=by
 have e:(fun _:Str=>false)=fun y=>sc.names.lookup y==some .cell:=funext fun y=>by
  cases z:sc.names.lookup y==some NameKind.cell with
  | false=>rfl
  | true=>exact absurd rfl (h _ (PySem.mem_of_lookup (by simpa using z)))
 unfold rG Hm;rw[Hq h,e]
theorem jH.toD{X:Cx}{nt:Nat}{N':List Str}{js:List Nat}{sc:Scope}(S:jH X nt N' js sc):YG X nt N' js sc:=⟨S.kind,fun y hy e=>absurd e (S.jg y hy),S.names,S.clos,S.all,S.len,S.cap,S.Yo⟩
theorem T3{X:Cx}{ae:List (Addr×Obj)}{σ:St}{H:Hp}{s:Shared}{fp:List Addr}{N':List Str}{js:List Nat}{sc:Scope}{nt:Nat}{h1:Heap}{tk:Nat}(I:Inv X ae σ H s)(hf:∀b∈fp,g8 X ae H b)(hlt:∀b∈fp,b<s.heap.objs.size)
  (S:jH X nt N' js sc) (hn:h1.Ns s.heap.objs.size fun _=>none) (hk:∀b o,s.heap.get? b=some o->h1.get? b=some o):Inv (rG X N' sc fp s H) [] (List.replicate nt none++cg js σ) H { s with heap:=h1,toks:=tk }:=by
 rw[zR S.jg];exact DK I hf hlt S.toD (fun {x c} e=>by rw[Hq S.jg] at e; exact .inr ⟨e,fun z=>S.jg _ z rfl⟩) hn hk
structure HY(X:Cx)(ifs:List Expr)(t:TT):Prop where
 mk ::
 go:∀(ae:List (Addr×Obj))(s:Shared)(σ:St)(H:Hp)(Q:Bool->Hp->Prop),Inv X ae σ H s->t σ H Q->wpAny (model X.prog X.w) X.A (forIn ifs true fun c r=>if r=true then do let ok <- isTrue c X.env (eval c X.env); pure (ForInStep.yield ok) else pure (ForInStep.yield r)) (TP X ae σ Q) X.xe s
instance {X:Cx} {ifs:List Expr} {t:TT}:CoeFun (HY X ifs t) (fun _=>
 ∀(ae:List (Addr×Obj))(s:Shared)(σ:St)(H:Hp)(Q:Bool->Hp->Prop),Inv X ae σ H s->t σ H Q->wpAny (model X.prog X.w) X.A (forIn ifs true fun c r=>if r=true then do let ok <- isTrue c X.env (eval c X.env); pure (ForInStep.yield ok) else pure (ForInStep.yield r)) (TP X ae σ Q) X.xe s):=⟨HY.go⟩
def qL:TT:=fun _ H Q=>Q true H
theorem ik{X:Cx}:HY X [] qL:=.mk fun ae s σ H Q I h=>wpAny_tests_nil ⟨H,I,h⟩
theorem wY{X:Cx}{c:Expr}{t:TT}(h:PT X c t):HY X [c] t:=.mk fun ae s σ H Q I q=>wpAny_tests_one (h ae s σ H Q I q)
def fM(nt:Nat)(js:List Nat)(wi:TI)(g:TG)(tc:TT)(te:TE):TE:=fun σ H Q=>wi σ H fun J H1=>∀acc,H1 acc=none->∃W:Nat->Nat->List V->Hp->Prop,(∃m,W 0 m [] (upd H1 acc (.lst [])))/\∀i m ys H2,W i m ys H2 ->
 (J.stop i H2/\Q (.ref acc) H2)\/(J.go i H2/\∀x H3,J.xj i H2 x H3->g x (List.replicate nt none++cg js σ) H3 fun σ' H'=>(σ'.drop nt=cg js σ/\σ'.length=(List.replicate nt (none:Option V)++cg js σ).length)/\tc σ' H' fun b dH=>
  if b=true then te σ' dH fun y H4=>H4 acc=some (.lst ys)/\ys.length<sizeLine/\∃m',m'<m/\W (i+1) m' (ys++[y]) (upd H4 acc (.lst (ys++[y]))) else ∃m',m'<m/\W (i+1) m' ys dH)
theorem Hn{prog:Program}{w:World}{A:Around}{R:Result->Shared->Prop}{s:Shared}{elt target iter:Expr}{ifs:List Expr}{sc:Scope}{pos:Pos}{it acc:Value}{env:Env}(Iv:Nat->Shared->Prop)
  (turn:∀n s,Iv n s->wpAny (model prog w) A (pyNext it) (fun r s1=>match r with
   | none=>R (.ok .next) s1
   | some v=>wpAny (model prog w) A (letOwnedTupleGo target it v) (fun _ s2=>wpAny (model prog w) A (assign target env v) (fun _ s3=>
     wpAny (model prog w) A (forIn ifs true fun c r=>if r=true then do let ok <- isTrue c env (eval c env); pure (ForInStep.yield ok) else pure (ForInStep.yield r)) (fun ok s3'=>
     if ok=true then wpAny (model prog w) A (eval elt env) (fun x s4=>
     wpAny (model prog w) A (call (.builtin "list.append") [acc,x]) (fun _ s5=>∃m,m<n/\Iv m s5) (fun _ _=>False) s4) (fun _ _=>False) s3' else ∃m,m<n/\Iv m s3') (fun _ _=>False) s3) (fun _ _=>False) s2) (fun _ _=>False) s1) (fun _ _=>False) s)
  (n:Nat) (h:Iv n s):codeAny (model prog w) A (.compLoop (.ListComp elt [⟨target,iter,ifs,0⟩] sc pos) 0 it acc env) R s:=by
 refine codeAny_loop rfl Iv (fun n s hI=>?_) n h;show wpAny _ _ ((compTurn (.ListComp elt [⟨target,iter,ifs,0⟩] sc pos) 0 it acc env).onRaise (fun x=>do noteFrame x env; theTreesLotGoes x)) _ _ s
 refine wpAny_noted ?_;rw[compTurn_list];refine aY (Gd (aY (iM (turn n s hI) (fun r s1 q1=>?_) fun _ _ f=>f.elim)));cases r with
 | none=>exact b_ q1
 | some v=>
  refine aY (iM q1 (fun _ s2 q2=>?_) fun _ _ f=>f.elim);refine aY (iM q2 (fun _ s3 q3=>aY (iM q3 (fun ok s3' q3'=>?_) fun _ _ f=>f.elim)) fun _ _ f=>f.elim);cases ok with
  | false=>exact b_ ⟨rfl,q3'⟩
  | true=>exact aY (aY (iM q3' (fun x s4 q4=>aY (iM q4 (fun _ s5 q5=>b_ (b_ ⟨rfl,q5⟩)) fun _ _ f=>f.elim)) fun _ _ f=>f.elim))
theorem zU{X:Cx}{elt iter:Expr}{tg:Expr}{ifs:List Expr}{g:TG}{tc:TT}{nt:Nat}{pos:Pos}{sc:Scope}{wi:TI}{te:TE}{N':List Str}{js:List Nat}{use:Option (Value->Sem Unit)}{Qc:Value->Shared->Prop}{ae:List (Addr×Obj)}{s:Shared}{σ:St}{H:Hp}{Q:VK}{kp:Pos}(hc:X.calm=true)(hi:PI X tg iter wi)(S:YG X nt N' js sc)
  (hgt:∀fp s H,PG (Hm X N' sc fp s H) tg g) (hif:∀fp s H,HY (Hm X N' sc fp s H) ifs tc) (he:∀fp s H,PE (Hm X N' sc fp s H) elt te) (hs:∀x,foldedSetIterable iter X.env x=pure x) (I:Inv X ae σ H s) (h:fM nt js wi g tc te σ H Q)
  (fin:∀(acc C:Addr)(H':Hp)(s':Shared),Inv X ae σ H' s'->g8 X ae H' C->(∃m,s'.heap.Ns C m)->Q (.ref acc) H'->compPost (model X.prog X.w) X.A X.xe use Qc (.ref acc) C (.ok .next) s') :
  wpAny (model X.prog X.w) X.A (comprehension (.ListComp elt [⟨tg,iter,ifs,0⟩] sc pos) sc X.env kp (newList []) false (eval iter X.env) use) Qc X.xe s:=by
 refine wpAny_comprehension_free (use:=use) rfl hs S.clos S.kind S.names ?_;refine dI (hi ae s σ H _ I h) fun v s1 q1=>dI q1 fun itv s2 q2=>?_;obtain⟨it,fp,tn,J,H2,e,I2,T,st2,f2,q3⟩:=q2;subst e;refine vY ?_;obtain⟨W,⟨m0,w0⟩,turn⟩:=q3 s2.heap.objs.size I2.fresh;have I3:=I2.acE (ys:=[]) (its:=[]) (t':=s2.toks) .nil (fG _)
 have lt2:∀b∈fp,b<s2.heap.objs.size:=fun b hb=>by
  obtain⟨o,ho,_⟩:=T.obj 0 _ st2 b hb;exact cI ho
 generalize e3:({ s2 with heap:=s2.heap.push { cls:=.type "list",data:=.seq ([]:List Value).toArray },toks:=s2.toks }:Shared)=s3 at I3
 have e3':({ s2 with heap:=s2.heap.push { cls:=.type "list",dict:=none,data:=.seq ([]:List Value).toArray } }:Shared)=s3:=e3
 have sz3:s3.heap.objs.size=s2.heap.objs.size+1:=by rw[<- e3]; exact iQ ..
 have st3:tn 0 s3.heap:=T.keep 0 _ _ st2 fun b hb o ho=>by rw[<- e3]; exact dJ _ ho
 have lt3:∀b∈fp,b<s3.heap.objs.size:=fun b hb=>by rw[sz3]; exact Dl (lt2 b hb)
 have f3:∀b∈fp,g8 X ae (upd H2 s2.heap.objs.size (.lst [])) b:=fun b hb=>⟨by rw[aP (gB (lt2 b hb))]; exact(f2 b hb).1,(f2 b hb).2⟩
 generalize hH3:upd H2 s2.heap.objs.size (.lst [])=H3 at I3 f3 w0;refine An ?_;generalize eh1:pushCells (s3.heap.push { cls:=.type "dict",data:=.dict #[] }) sc.names=h1;have hk:∀b o,s3.heap.get? b=some o->h1.get? b=some o:=fun b o q=>by rw[<- eh1]; exact pushCells_keeps _ _ b o (dJ _ q)
 have hns':h1.Ns s3.heap.objs.size fun _=>none:=by rw[<- eh1]; exact(Heap.Ns.new s3.heap (.type "dict")).keeps (pushCells_keeps _ _)
 have I4:Inv (Hm X N' sc fp s3 H3) [] (List.replicate nt none++cg js σ) H3 { s3 with heap:=h1,toks:=s3.toks }:=DK I3 f3 lt3 S (fun {x c} e=>by
  have:=zX sc.names (s3.heap.push { cls:=.type "dict",data:=.dict #[] }) (rJ sc X.env) x c (by rw[iQ]; exact e)
  rw[eh1,iQ] at this
  exact this) hns' hk
 have st4:tn 0 h1:=T.keep 0 _ _ st3 fun b hb o ho=>hk b o ho;have stat:∀{H':Hp},(∀b∈fp,H' b=none)->∀b∈fp,g8 (Hm X N' sc fp s3 H3) [] H' b:=fun hn b hb=>⟨hn b hb,gB (lt3 b hb),I4.ok.Og b hb,.inl hb,(I4.ok.exf b hb).2,fun p hp=>absurd (show p∈([]:List (Addr×Obj)) from hp) (by simp)⟩
 have out:∀{σ':St}{H':Hp}{s':Shared},Inv (Hm X N' sc fp s3 H3) [] σ' H' s'->Q (.ref s2.heap.objs.size) H'->compPost (model X.prog X.w) X.A X.xe use Qc (.ref s2.heap.objs.size) s3.heap.objs.size (.ok .next) s':=by
  intro σ' H' s' I' q';obtain⟨m,hn,_⟩:=id I'.loc;have I5:Inv X ae σ H' s':=I3.call' I'.os I'.base I'.hok I'.bare fun b hb=>⟨(f3 b hb).2.2.2.1,(f3 b hb).2.1,(f3 b hb).2.2.2.2.1,(f3 b hb).2.2.2.2.2⟩;exact fin _ _ H' s' I5 (I3.rF (dM _) I'.free) ⟨m,hn⟩ q'
 have loop:∀s4:Shared,s4={ s3 with heap:=h1,toks:=s3.toks }->codeAny (model X.prog X.w) X.A (.compLoop (.ListComp elt [⟨tg,iter,ifs,0⟩] sc pos) 0 (.ref it) (.ref s2.heap.objs.size) (compEnvC sc (cellsFrom (s3.heap.objs.size+1) sc.names (rJ sc X.env)) s3.heap.objs.size X.env))
   (compPost (model X.prog X.w) X.A X.xe use Qc (.ref s2.heap.objs.size) s3.heap.objs.size) s4:=by
  rintro s4 rfl;refine Hn (fun n s'=>∃i ys H',Inv (Hm X N' sc fp s3 H3) [] (List.replicate nt none++cg js σ) H' s'/\tn i s'.heap/\(∀b∈fp,H' b=none)/\W i n ys H') ?_ m0 ⟨0,[],H3,I4,st4,fun b hb=>(f3 b hb).1,w0⟩;rintro n s5 ⟨i,ys,H5,I5,Zm,vf,w5⟩;rcases turn i n ys H5 w5 with⟨stop,qn⟩ | ⟨go,step⟩
  ·refine dI (T.done (Hm X N' sc fp s3 H3) rfl rfl rfl hc i [] s5 _ H5 (fun _ _=>False) I5 (stat vf) Zm stop) fun r s6 qx=>?_;obtain⟨hr,I6⟩:=qx;subst hr;exact out I6 qn
  ·refine dI (T.item (Hm X N' sc fp s3 H3) rfl rfl rfl hc i [] s5 _ H5 (fun _ _=>False) I5 (stat vf) Zm go) fun r s6 qx=>?_;obtain⟨u,hr,q6⟩:=qx;subst hr;refine dI q6 fun _ s7 qx=>?_;obtain⟨y,H7,I7,r7,y7,Zk,fr7⟩:=qx;have I7':=I7.pinned (stat fr7) (T.obj _ _ Zk);refine dI (hgt fp s3 H3 _ s7 _ H7 y u _ I7' r7 (step y _ y7)) fun _ s8 qx=>?_;obtain⟨σ8,H8,I8,hsh,q8⟩:=qx;refine dI (hif fp s3 H3 _ s8 _ _ _ I8 q8) fun b s8' qx=>?_;obtain⟨H8',I8',q8'⟩:=qx
   have wk:∀k v,(List.replicate nt none++cg js σ)[k]?=some (some v)->σ8[k]?=some (some v):=fun k v e=>by
    by_cases hlt:k<nt
    ·rw[v8 (by rw[JB]; exact hlt),Wk,aL hlt] at e
     cases e
    ·rw[tE (by rw[JB]; omega),JB,<- hsh.1,JW] at e
     rw[show nt+(k-nt)=k by omega] at e
     exact e
   cases b with
   | true=>
    rw[aL rfl] at q8' ⊢;refine dI (he fp s3 H3 _ s8' _ _ _ I8' q8') fun z s9 qx=>?_;obtain⟨vz,H9,I9,r9,ha,hz,m',hm,w9⟩:=qx;refine dI (dY (X:=Hm X N' sc fp s3 H3) _ s9 _ H9 (.ref s2.heap.objs.size) [vz] (.ref s2.heap.objs.size) [z] (fun _ H'=>H'=upd H9 s2.heap.objs.size (.lst (ys++[vz]))) I9 rfl (.cons r9 .nil) ⟨_,ys,vz,rfl,rfl,ha,hz,rfl⟩) fun _ uM qx=>?_;obtain⟨_,Am,I10,_,e10⟩:=qx;subst e10;refine⟨m',hm,i+1,ys++[vz],_,(I10.jq).weak hsh.2.symm wk,T.keep _ _ _ Zk fun b hb o e=>(I10.pin (b,o) (i_ _ (i_ _ (d_ hb e)))).1,fun b hb=>?_,w9⟩;obtain⟨o,e,d⟩:=T.obj _ _ Zk b hb;exact(I10.pin (b,o) (i_ _ (i_ _ (d_ hb e)))).2.1
   | false=>
    rw[bD ⋯] at q8' ⊢
    obtain⟨m',hm,w9⟩:=q8';refine⟨m',hm,i+1,ys,_,(I8'.jq).weak hsh.2.symm wk,T.keep _ _ _ Zk fun b hb o e=>(I8'.pin (b,o) (i_ _ (i_ _ (d_ hb e)))).1,fun b hb=>?_,w9⟩;obtain⟨o,e,d⟩:=T.obj _ _ Zk b hb;exact(I8'.pin (b,o) (i_ _ (i_ _ (d_ hb e)))).2.1
 exact codeAny_compStart_list (loop _ rfl) (T.self X.A 0 _ _ _ st4 (loop _ rfl))
theorem Wr{X:Cx}{elt iter:Expr}{tg:Expr}{ifs:List Expr}{g:TG}{tc:TT}{nt:Nat}{y:Str}{py pos spos:Pos}{sc:Scope}{wi:TI}{te:TE}{N':List Str}{js:List Nat}{i:Nat}(hN:X.N.Nodup)(hi':X.N[i]?=some y)(hy:Loc X.env.scope y)(hc:X.calm=true)(hi:PI X tg iter wi)(S:YG X nt N' js sc)
  (hgt:∀fp s H,PG (Hm X N' sc fp s H) tg g) (hif:∀fp s H,HY (Hm X N' sc fp s H) ifs tc) (he:∀fp s H,PE (Hm X N' sc fp s H) elt te) (hs:∀x,foldedSetIterable iter X.env x=pure x:=by intro _; rfl) (hw:swapsWith (.ListComp elt [⟨tg,iter,ifs,0⟩] sc pos) (some (.Name y py)) spos.line X.env=pure true:=by rfl)
  (hf:X.fn y=true\/X.env.scope.names.lookup y=some .local:=by walk_at "h") :
  PS X (.Assign [.Name y py] (.ListComp elt [⟨tg,iter,ifs,0⟩] sc pos) spos) (Jc (fM nt js wi g tc te) (fV i)):=by
 symm;intro D I h;rw[exec_Assign_Name_used _ _ _ _ hw];refine aY (Gd (aY ?_));refine aY (zU hc hi S hgt hif he hs I h fun acc C H' s' I5 fc ⟨m,hn⟩ q=>?_)
 have ho:∀b∈[C],∃o,s'.heap.get? b=some o/\∀v,o.data≠.cell v:=fun b hb=>by
  rw[fP.mp hb];obtain⟨o,es,n,e,ed,_⟩:=hn;exact⟨o,e,fun v z=>by rw[ed] at z; cases z⟩
 have I6:=I5.pinned (fp:=[C]) (fun b hb=>by rw[fP.mp hb]; exact fc) ho
 have hg:PG X (.Name y py) (fV i):=aC hN hi' hy hf;show wpAny _ _ (assign (.Name y py) X.env (.ref acc)) (fun _ s''=>∃m,s''.heap.Ns C m/\∀h',Heap.SameBut C s''.heap h'->_) _ s';refine dI (hg _ s' _ H' (.ref acc) (.ref acc) _ I6 rfl q) fun _ s7 qx=>?_;obtain⟨σ7,H7,I7,q7⟩:=qx
 have pc:∀o,s'.heap.get? C=some o->s7.heap.get? C=some o/\H7 C=none:=fun o e=>by
  have:=I7.pin (C,o) (i_ _ (i_ _ (d_ (by simp) e)))
  exact⟨this.1,this.2.1⟩
 refine⟨m,hn.at fun o e=>(pc o e).1,fun h' sb=>b_ (b_ ⟨σ7,H7,?_,q7⟩)⟩
 have fr:H7 C=none:=by
  obtain⟨o,es,n,e,ed,_⟩:=hn;exact(pc o e).2
 exact I7.jq.turned (it:=C) (t':=s7.toks) (fun b o hb e=>sb.extBut b o hb e) fr fc.2.1 fc.2.2.2.1 fc.2.2.2.2.1 fc.2.2.2.2.2
theorem Wy{X:Cx}{elt iter tg:Expr}{ifs:List Expr}{g:TG}{tc:TT}{nt:Nat}{pos:Pos}{sc:Scope}{wi:TI}{te:TE}{N':List Str}{js:List Nat}(hc:X.calm=true)(hi:PI X tg iter wi)(S:YG X nt N' js sc)
  (hgt:∀fp s H,PG (Hm X N' sc fp s H) tg g) (hif:∀fp s H,HY (Hm X N' sc fp s H) ifs tc) (he:∀fp s H,PE (Hm X N' sc fp s H) elt te) (hs:∀x,foldedSetIterable iter X.env x=pure x:=by intro _; rfl):PE X (.ListComp elt [⟨tg,iter,ifs,0⟩] sc pos) (fM nt js wi g tc te):=by
 symm;intro Q I h;rw[eval_ListComp];refine zU (use:=none) hc hi S hgt hif he hs I h fun acc C H' s' I5 fc ⟨m,hn⟩ q=>?_;refine⟨m,hn,fun h' sb=>?_⟩;exact⟨.ref acc,H',I5.turned (it:=C) (t':=s'.toks) (fun b o hb q=>sb.extBut b o hb q) fc.1 fc.2.1 fc.2.2.2.1 fc.2.2.2.2.1 fc.2.2.2.2.2,rfl,q⟩
theorem ph{X:Cx}{elt iter:Expr}{tg:Expr}{ifs:List Expr}{g:TG}{tc:TT}{nt:Nat}{y:Str}{py pos spos:Pos}{sc:Scope}{wi:TI}{te:TE}{N':List Str}{js:List Nat}{i:Nat}(hN:X.N.Nodup)(hi':X.N[i]?=some y)(hy:Loc X.env.scope y)(hc:X.calm=true)(hi:PI X tg iter wi)(S:jH X nt N' js sc)
  (hgt:∀fp s H,PG (rG X N' sc fp s H) tg g) (hif:∀fp s H,HY (rG X N' sc fp s H) ifs tc) (he:∀fp s H,PE (rG X N' sc fp s H) elt te) (hs:∀x,foldedSetIterable iter X.env x=pure x:=by intro _; rfl) (hw:swapsWith (.ListComp elt [⟨tg,iter,ifs,0⟩] sc pos) (some (.Name y py)) spos.line X.env=pure true:=by rfl)
  (hf:X.fn y=true\/X.env.scope.names.lookup y=some .local:=by walk_at "h") :
  PS X (.Assign [.Name y py] (.ListComp elt [⟨tg,iter,ifs,0⟩] sc pos) spos) (Jc (fM nt js wi g tc te) (fV i)):=Wr hN hi' hy hc hi S.toD (fun fp s H=>zR S.jg▸hgt fp s H) (fun fp s H=>zR S.jg▸hif fp s H) (fun fp s H=>zR S.jg▸he fp s H) hs hw hf
theorem gw{X:Cx}{elt iter tg:Expr}{ifs:List Expr}{g:TG}{tc:TT}{nt:Nat}{pos:Pos}{sc:Scope}{wi:TI}{te:TE}{N':List Str}{js:List Nat}(hc:X.calm=true)(hi:PI X tg iter wi)(S:jH X nt N' js sc)
  (hgt:∀fp s H,PG (rG X N' sc fp s H) tg g) (hif:∀fp s H,HY (rG X N' sc fp s H) ifs tc) (he:∀fp s H,PE (rG X N' sc fp s H) elt te) (hs:∀x,foldedSetIterable iter X.env x=pure x:=by intro _; rfl):PE X (.ListComp elt [⟨tg,iter,ifs,0⟩] sc pos) (fM nt js wi g tc te):=Wy hc hi S.toD (fun fp s H=>zR S.jg▸hgt fp s H) (fun fp s H=>zR S.jg▸hif fp s H) (fun fp s H=>zR S.jg▸he fp s H) hs
theorem Lg.toG{X:Cx}{N':List Str}{js:List Nat}{sc:Scope}(S:Lg X N' js sc):jH X 1 N' js sc:=⟨S.kind,S.jg,S.names,S.clos,S.all,by rw[S.len,Nat.add_comm],fun i j h=>by rw[Nat.add_comm]; exact S.cap i j h,fun y h=>S.Yo y (by rw[<- List.drop_one]; exact h)⟩
theorem Pb{js:List Nat}{wi:TI}{te:TE}:jr js wi te=fM 1 js wi (fV 0) qL te:=by
 funext σ H Q
 have e:∀(x:V)(H3:Hp)(K1:VK)(K2:Hp->Prop),te (some x::cg js σ) H3 K1=fV 0 x (List.replicate 1 none++cg js σ) H3 fun σ' H'=>(σ'.drop 1=cg js σ/\σ'.length=(List.replicate 1 (none:Option V)++cg js σ).length)/\qL σ' H' fun b dH=>if b=true then te σ' dH K1 else K2 dH:=fun x H3 K1 K2=>propext ⟨fun h=>⟨⟨rfl,rfl⟩,h⟩,fun h=>h.2⟩
 unfold jr fM;refine jF (wi σ H) (funext fun J=>funext fun H1=>?_);refine propext ⟨fun h acc ha=>?_,fun h acc ha=>?_⟩
 ·obtain⟨W,h0,hs⟩:=h acc ha;refine⟨W,h0,fun i m ys H2 w=>(hs i m ys H2 w).imp id fun z=>⟨z.1,fun x H3 y=>?_⟩⟩;have:=z.2 x H3 y;rw[e x H3 _ fun dH=>∃m',m'<m/\W (i+1) m' ys dH] at this;exact this
 ·obtain⟨W,h0,hs⟩:=h acc ha;refine⟨W,h0,fun i m ys H2 w=>(hs i m ys H2 w).imp id fun z=>⟨z.1,fun x H3 y=>?_⟩⟩;rw[e x H3 _ fun dH=>∃m',m'<m/\W (i+1) m' ys dH];exact z.2 x H3 y
theorem tG{X:Cx}{elt iter:Expr}{x:Str}{px pos:Pos}{sc:Scope}{wi:TI}{te:TE}{N':List Str}{js:List Nat}(hc:X.calm=true)(hi:PI X (.Name x px) iter wi)(S:Lg X N' js sc)(h0:N'[0]?=some x)(nd:N'.Nodup)
  (hx:sc.names.lookup x=some .local) (he:∀fp s H,PE (rG X N' sc fp s H) elt te) (hs:∀x,foldedSetIterable iter X.env x=pure x:=by intro _; rfl):PE X (.ListComp elt [⟨.Name x px,iter,[],0⟩] sc pos) (jr js wi te):=by
 rw[Pb];exact gw hc hi S.toG (fun _ _ _=>aC nd h0 (.inl (h_ hx)) (.inr (h_ hx))) (fun _ _ _=>ik) he hs
theorem Qq{X:Cx}{elt iter:Expr}{x y:Str}{px py pos spos:Pos}{sc:Scope}{wi:TI}{te:TE}{N':List Str}{js:List Nat}{i:Nat}(hN:X.N.Nodup)(hi':X.N[i]?=some y)(hy:Loc X.env.scope y)(hc:X.calm=true)(hi:PI X (.Name x px) iter wi)(S:Lg X N' js sc)(h0:N'[0]?=some x)(nd:N'.Nodup)
  (hx:sc.names.lookup x=some .local) (he:∀fp s H,PE (rG X N' sc fp s H) elt te) (hs:∀x,foldedSetIterable iter X.env x=pure x:=by intro _; rfl) (hw:swapsWith (.ListComp elt [⟨.Name x px,iter,[],0⟩] sc pos) (some (.Name y py)) spos.line X.env=pure true:=by rfl)
  (hf:X.fn y=true\/X.env.scope.names.lookup y=some .local:=by walk_at "h") :
  PS X (.Assign [.Name y py] (.ListComp elt [⟨.Name x px,iter,[],0⟩] sc pos) spos) (Jc (jr js wi te) (fV i)):=by
 rw[Pb];exact ph hN hi' hy hc hi S.toG (fun _ _ _=>aC nd h0 (.inl (h_ hx)) (.inr (h_ hx))) (fun _ _ _=>ik) he hs hw hf
theorem jH.of{X:Cx}{nt:Nat}{N':List Str}{js:List Nat}{sc:Scope}(k:sc.kind=.function:=by rfl)(n:(sc.names.all fun y=>y.2 != .cell)=true:=by decide +kernel)
  (l:(sc.names.all fun y=>y.2 != .local || sc.names.lookup y.1==some .local)=true:=by decide +kernel) (al:(sc.names.all fun y=>y.2 != .free || (X.env.cells.lookup y.1).isSome)=true:=by rfl)
  (ln:N'.length=nt+js.length:=by rfl) (cp:(N'.drop nt).map some=js.map (fun j=>X.N[j]?):=by rfl) (ck:((N'.drop nt).all fun y=>X.env.kindOf y==some .cell&&sc.names.lookup y==some .free)=true:=by rfl):jH X nt N' js sc:=by
 have n':∀y∈sc.names,y.2≠.cell:=fun y hy=>by have:=yw.mp n y hy; simpa using this
 refine⟨k,n',tQ l,nC al,al,ln,fun i j h=>?_,fun y h=>?_⟩
 ·have:=jF (fun l=>l[i]?) cp;simp only[g_,JW,h,Dg] at this;cases e:N'[nt+i]? with
  | none=>rw[e] at this; cases this
  | some y=>rw[e] at this; exact Option.some.inj this
 ·have:=yw.mp ck y h;simpa using this
def LCK(K:Frag)(js:List Nat)(te:TE)(σ:St)(Q:VK)(x:V)(H1:Hp):Prop:=jr js (zy K fun _ H R=>R x H) te σ H1 Q
theorem RN{K:Frag}{js:List Nat}{tl te:TE}{σ:St}{H:Hp}{Q:VK}:jr js (zy K tl) te σ H Q=tl σ H (LCK K js te σ Q):=rfl
theorem LCK.of{K:Frag}{js:List Nat}{a:Addr}{xs:List V}{es:List PyData}{te:TE}{σ:St}{H:Hp}{Q:VK}(ha:H a=some (.lst xs))(hn:es.length=xs.length)(hz:es.length<=sizeLine)(hL:bJ es=true)
  (step:∀(i:Nat) x e H',xs[i]?=some x->es[i]?=some e->aF H H'->∀R:VK,(∀v dH,aF H' dH->At dH e v->R v dH)->te (some x::cg js σ) H' R)
  (fin:∀acc ys H',aF H H'->H acc=none->H' acc=some (.lst ys)->ak (hid acc H') es ys->Q (.ref acc) H'):LCK K js te σ Q (.ref a) H:=Rj (fun R h=>h) ha hn hz hL step fin
theorem aay{K:Frag}{js:List Nat}{a:Addr}{xs:List V}{es:List PyData}{tl te:TE}{σ:St}{H:Hp}{Q:VK}(hl:∀R:VK,R (.ref a) H->tl σ H R)(ha:H a=some (.tup xs))(hn:es.length=xs.length)(hz:es.length<=sizeLine)(hL:bJ es=true)
  (step:∀(i:Nat) x e H',xs[i]?=some x->es[i]?=some e->aF H H'->∀R:VK,(∀v dH,aF H' dH->At dH e v->R v dH)->te (some x::cg js σ) H' R)
  (fin:∀acc ys H',aF H H'->H acc=none->H' acc=some (.lst ys)->ak (hid acc H') es ys->Q (.ref acc) H'):jr js (zx K tl) te σ H Q:=by
 refine hl _ ⟨a,rfl,⟨xs,cB.of ha⟩,fun acc hacc=>?_⟩;refine⟨fun i m ys H2=>m=es.length-i/\i<=es.length/\ak (hid acc H2) (es.take i) ys/\aF H H2/\H2 acc=some (.lst ys),⟨_,rfl,fG _,ak.nil,aM hacc _,aD⟩,?_⟩;rintro i m ys H2 ⟨rfl,hi,hA,sm,hy⟩;have ht:cB K H2 a xs:=cB.of (sm _ _ ha);by_cases hlt:i<es.length
 ·refine .inr ⟨⟨xs,xs[i]'∅,ht,gm ∅⟩,fun x H3 y=>?_⟩
  obtain⟨e,y⟩:=y;subst e;have e1:es[i]?=some es[i]:=gm hlt;refine step i x _ _ (y xs ht) e1 sm _ fun v H4 s4 a4=>⟨s4 _ _ hy,?_,es.length-(i+1),∅,rfl,hlt,?_,?_,aD⟩
  ·rw[hA.length,jV]; omega
  ·rw[iV,Ge,e1];exact ak.append (hA.mono (aF.hid s4)) (ak.cons (At.pG (s4 _ _ hy) _ _ (j4 hL e1) a4) ak.nil)
  ·refine fun b o q=>?_;have nb:b≠acc:=bV q hacc;rw[aP nb];exact s4 _ _ (sm _ _ q)
 ·have e:i=es.length:=by omega
  subst e;rw[mY] at hA;exact .inl ⟨⟨xs,ht,∅⟩,fin _ _ _ sm hacc hy hA⟩
theorem D_(kp:Nat->Bool)(f:Nat->V)(i:Nat):((List.range (i+1)).filter kp).map f=((List.range i).filter kp).map f++(if kp i=true then[f i] else[]):=by
 rw[yG,List.filter_append,iZ];cases h:kp i <;> simp[h]
theorem X7(kp:Nat->Bool)(f:Nat->V)(i:Nat):(((List.range i).filter kp).map f).length<=i:=by
 rw[bW];exact qt (List.length_filter_le _ _) (by rw[Dk]; exact dM _)
theorem zV{js:List Nat}{J:It}{tc:TT}{te:TE}{σ:St}{H:Hp}{Q:VK}{acc:Addr}{n:Nat}(xv:Nat->V)(kp:Nat->Bool)(f:Nat->V)(hn:n<=1000)(hacc:H acc=none)
  (go:∀i H',i<n->aF H H'->J.go i H') (yl:∀i H' x dH,i<n->aF H H'->J.xj i H' x dH->x=xv i/\dH=H') (st:∀H',aF H H'->J.stop n H')
  (test:∀i H',i<n->aF H H'->∀R:Bool->Hp->Prop,R (kp i) H'->tc (some (xv i)::cg js σ) H' R)
  (val:∀i H',i<n->kp i=true->aF H H'->∀R:VK,R (f i) H'->te (some (xv i)::cg js σ) H' R)
  (fin:∀H',aF H H'->H' acc=some (.lst (((List.range n).filter kp).map f))->Q (.ref acc) H') :
  ∃W:Nat->Nat->List V->Hp->Prop,(∃m,W 0 m [] (upd H acc (.lst [])))/\∀i m ys H2,W i m ys H2 ->
   (J.stop i H2/\Q (.ref acc) H2)\/(J.go i H2/\∀x H3,J.xj i H2 x H3->fV 0 x (List.replicate 1 none++cg js σ) H3 fun σ' H'=>(σ'.drop 1=cg js σ/\σ'.length=(List.replicate 1 (none:Option V)++cg js σ).length)/\tc σ' H' fun b dH=>
    if b=true then te σ' dH fun y H4=>H4 acc=some (.lst ys)/\ys.length<sizeLine/\∃m',m'<m/\W (i+1) m' (ys++[y]) (upd H4 acc (.lst (ys++[y]))) else ∃m',m'<m/\W (i+1) m' ys dH):=by
 refine⟨fun i m ys H2=>m=n-i/\i<=n/\ys=((List.range i).filter kp).map f/\aF H H2/\H2 acc=some (.lst ys),⟨_,rfl,fG _,rfl,aM hacc _,aD⟩,?_⟩;rintro i m ys H2 ⟨rfl,hi,rfl,sm,hy⟩;by_cases hlt:i<n
 ·refine .inr ⟨go i H2 hlt sm,fun x H3 y=>?_⟩;obtain⟨rfl,rfl⟩:=yl i H2 x H3 hlt sm y;refine⟨⟨rfl,by simp⟩,?_⟩
  refine test i _ hlt sm _ ?_;have hs:=D_ kp f i;cases h:kp i with
  | true=>
   rw[aL rfl];rw[h,aL rfl] at hs;refine val i _ hlt h sm _ ⟨hy,bC (by have:=X7 kp f i; omega),n-(i+1),∅,rfl,hlt,hs.symm,sm.kY hacc,aD⟩
  | false=>
   rw[bD ⋯]
   rw[h,bD ⋯,oY] at hs
   exact⟨n-(i+1),∅,rfl,hlt,hs.symm,sm,hy⟩
 ·have e:i=n:=by omega
  subst e;exact .inl ⟨st _ sm,fin _ sm hy⟩
theorem Ho{K:Frag}{js:List Nat}{a:Addr}{xs:List V}{tl:TE}{tc:TT}{te:TE}{σ:St}{H:Hp}{Q:VK}(kp:Nat->Bool)(f:Nat->V)(hl:∀R:VK,R (.ref a) H->tl σ H R)(ha:H a=some (.lst xs))(hn:xs.length<=1000)
  (test:∀i x H',xs[i]?=some x->aF H H'->∀R:Bool->Hp->Prop,R (kp i) H'->tc (some x::cg js σ) H' R)
  (val:∀i x H',xs[i]?=some x->kp i=true->aF H H'->∀R:VK,R (f i) H'->te (some x::cg js σ) H' R)
  (fin:∀acc H',aF H H'->H acc=none->H' acc=some (.lst (((List.range xs.length).filter kp).map f))->Q (.ref acc) H'):fM 1 js (zy K tl) (fV 0) tc te σ H Q:=by
 refine hl _ ⟨a,rfl,⟨xs,d7.of ha⟩,fun acc hacc=>?_⟩;have ht:∀H',aF H H'->d7 K H' a xs:=fun H' s=>d7.of (s _ _ ha);have gx:∀i,i<xs.length->xs[i]?=some (xs.getD i .non):=fun i hi=>by rw[fD,gm hi]; rfl
 exact zV (n:=xs.length) (fun i=>xs.getD i .non) kp f hn hacc (fun i H' hi s=>⟨xs,_,ht H' s,gx i hi⟩) (fun i H' x dH hi s y=>by
   obtain⟨e,y⟩:=y;have:=y xs (ht H' s);rw[gx i hi] at this
   exact⟨(Option.some.inj this).symm,e⟩) (fun H' s=>⟨xs,ht H' s,dM _⟩)
  (fun i H' hi s R hR=>test i _ H' (gx i hi) s R hR) (fun i H' hi hk s R hR=>val i _ H' (gx i hi) hk s R hR) fun H' s h=>fin acc H' s hacc h
theorem aaz{js:List Nat}{ta:TA}{tc:TT}{te:TE}{σ:St}{H:Hp}{Q:VK}{n:Nat}(kp:Nat->Bool)(f:Nat->V)(hl:∀R:List V->Hp->Prop,R [.int n] H->ta σ H R)(hn:n<=1000)
  (test:∀i H',i<n->aF H H'->∀R:Bool->Hp->Prop,R (kp i) H'->tc (some (.int (0+(i:Nat)))::cg js σ) H' R)
  (val:∀i H',i<n->kp i=true->aF H H'->∀R:VK,R (f i) H'->te (some (.int (0+(i:Nat)))::cg js σ) H' R)
  (fin:∀acc H',aF H H'->H acc=none->H' acc=some (.lst (((List.range n).filter kp).map f))->Q (.ref acc) H'):fM 1 js (DP ta) (fV 0) tc te σ H Q:=by
 refine hl _ ⟨n,rfl,∅,∅,fun acc hacc=>?_⟩
 have en:((n:Int)).toNat=n:=uR n;rw[en];exact zV (n:=n) (fun i=>.int (0+(i:Nat))) kp f hn hacc (fun i H' hi s=>hi) (fun i H' x dH hi s y=>⟨y.2,y.1⟩) (fun H' s=>dM _) test val fun H' s h=>fin acc H' s hacc h
section
variable{prog:Program}{w:World}{A:Around}{E:Value->Shared->Prop}{s:Shared}
theorem _root_.PySem.Heap.ExtBut.trans'{b:Addr}{h h1 h2:Heap}(x:Heap.ExtBut b h h1)(y:∀c o,h1.get? c=some o->h2.get? c=some o):Heap.ExtBut b h h2:=fun c o n e=>y c o (x c o n e)
theorem RQ{α:Type}{Q:α->Shared->Prop}(hh:A.handled=none)(q:∀h' x,(∀c o,s.heap.get? c=some o->h'.get? c=some o)->(∃o,h'.get? x=some o/\o.cls=.type "StopIteration")->E (.ref x) { s with heap:=h' }) :
  wpAny (model prog w) A (Builtin.SmallTypes.stopIteration (α:=α)) Q E s:=by
 unfold Builtin.SmallTypes.stopIteration;refine aY ?_;simp only[newExc,newTuple];refine aY (vY ?_ (by size_fits)); refine aY (m:=firstArgMember _ _) (uO (a:=Value.none) (by rfl) ?_)
 refine vY ?_ (by size_fits); simp only[raiseNew]
 refine aY (wpAny_handled ?_); rw[hh];refine aY (b_ (wpAny_throw ?_)); refine q _ _ (fun c o e=>?_) ⟨_,dF _ rfl,rfl⟩;exact dJ _ (dJ _ e)
theorem acs{it t:Addr}{i:Nat}{its:Array Value}{u:Value}{Q:Value->Shared->Prop}(hi:s.heap.IsTupleIter it t i)(ht:s.heap.IsTuple t its)(hu:its[i]?=some u)
  (q:∀h',h'.IsTupleIter it t (i+1)->Heap.SameBut it s.heap h'->Q u { s with heap:=h' }):wpAny (model prog w) A (Builtin.SmallTypes.nextOf (.ref it)) Q E s:=by
 obtain⟨oi,gi,ci,di⟩:=id hi;obtain⟨ot,gt,_,nt,dt⟩:=ht;have ty:=hi.typeIs;have nn:¬((Value.ref t==Value.none)=true):=fun z=>Bool.noConfusion (show false=true from z);unfold Builtin.SmallTypes.nextOf;refine aY (R9 (name:=Str.ofString "__next__") ty F.slot_tuple_iterator_next (yC F.slot_tuple_iterator_next ty F.entry_tuple_iterator_next ?_ (F.args_tuple_iterator_next_1 _)));show wpAny _ _ (field (.ref it) 0 >>= _) _ _ s; refine aY (jT gi di (x:=.ref t) rfl ?_);show wpAny _ _ (if(Value.ref t==Value.none)=true then _ else _) _ _ s; rw[bD nn]
 show wpAny _ _ (field (.ref it) 1 >>= _) _ _ s; refine aY (jT gi di (x:=.int i 0) rfl ?_);show wpAny _ _ (seqItems? (.ref t) >>= _) _ _ s; refine aY (qX gt dt ?_);simp only[uR,hu];have fin:∀h',(∃o,h'.get? it=some o/\o.cls=.type "tuple_iterator" /\ o.data=.fields #[.ref t,.int ((i+1:Nat):Int) 0])->Heap.SameBut it s.heap h'->Q u { s with heap:=h' }:=fun h' z sb=>q h' z sb
 refine aY (Dd gi di (by simp) (b_ ⟨u,rfl,b_ (fin _ ?_ (Qg ..))⟩))
 refine⟨_,A_ _ gi (Obj.isFreed_of_fields (Obj.data_mapFields di _)),(Obj.cls_mapFields ..).trans ci,?_⟩;rw[Obj.data_mapFields di];simp[rawInt]
theorem Z5{it t:Addr}{i:Nat}{its:Array Value}{Q:Value->Shared->Prop}(hh:A.handled=none)(hi:s.heap.IsTupleIter it t i)(ht:s.heap.IsTuple t its)(hu:its[i]?=none)
  (q:∀h' x,Heap.ExtBut it s.heap h'->(∃o,h'.get? x=some o/\o.cls=.type "StopIteration")->E (.ref x) { s with heap:=h' }):wpAny (model prog w) A (Builtin.SmallTypes.nextOf (.ref it)) Q E s:=by
 obtain⟨oi,gi,ci,di⟩:=id hi;obtain⟨ot,gt,_,nt,dt⟩:=ht;have ty:=hi.typeIs;have nn:¬((Value.ref t==Value.none)=true):=fun z=>Bool.noConfusion (show false=true from z);unfold Builtin.SmallTypes.nextOf;refine aY (R9 (name:=Str.ofString "__next__") ty F.slot_tuple_iterator_next (yC F.slot_tuple_iterator_next ty F.entry_tuple_iterator_next ?_ (F.args_tuple_iterator_next_1 _)));show wpAny _ _ (field (.ref it) 0 >>= _) _ _ s; refine aY (jT gi di (x:=.ref t) rfl ?_);show wpAny _ _ (if(Value.ref t==Value.none)=true then _ else _) _ _ s; rw[bD nn]
 show wpAny _ _ (field (.ref it) 1 >>= _) _ _ s; refine aY (jT gi di (x:=.int i 0) rfl ?_);show wpAny _ _ (seqItems? (.ref t) >>= _) _ _ s; refine aY (qX gt dt ?_);simp only[uR,hu];refine aY (qH (aY (Dd gi di (by simp) ?_)))
 exact RQ (A:=A.in1) hh fun h' x k z=>q h' x ((Qg ..).extBut.trans' k) z
end
theorem vh{prog:Program}{w:World}{A:Around}(hh:A.handled=none){it t:Addr}(ne:t≠it)(its:Array Value):Draws prog w A it [it,t] its.size (fun i v=>its[i]?=some v) (fun i h=>h.IsTupleIter it t i/\h.IsTuple t its) where
 live:=fun i h z=>let ⟨⟨o,e,_⟩,_⟩:=z; ⟨o,e⟩
 frame:=fun i h h' z k=>⟨z.1.at fun o e=>k it jw o e,z.2.at fun o e=>k t (iR _ jw) o e⟩
 item:=fun i s Q E hi z q=>by
  refine acs z.1 z.2 (u:=its[i]) (JC hi) fun h' z' sb=>?_;exact q _ h' s.toks (JC hi) ⟨z',z.2.extBut sb.extBut ne⟩ sb
 done:=fun s Q E z q=>Z5 hh z.1 z.2 (by simp) q
abbrev tiH(h:Heap)(t:Addr):Heap:=h.push { cls:=.type "tuple_iterator",data:=.fields #[.ref t,.int 0 0] }
abbrev enH(h:Heap)(t:Addr):Heap:=(tiH h t).push { cls:=.type "enumerate",data:=.fields #[.none,.bool false,.ref h.objs.size,rawInt 0,.none,.none] }
set_option maxHeartbeats 1000000 in
theorem Xa(t:Addr)(its:Array Value)(n:Nat)(dc:Option Addr)(sl:Array (Option Value)) :
  Meets (Builtin.«enumerate.__new__» ⟨[.type "enumerate",.ref t],[]⟩) (fun _ R s=>s.heap.get? t=some ⟨.type "tuple",dc,.seq its n,sl⟩/\R (.ok (.ret (.ref (tiH s.heap t).objs.size))) { s with heap:=enH s.heap t }):=
 .of_wp fun prog w A R s z=>by
  obtain⟨hp,g,d,tk,os⟩:=s;obtain⟨ht,z⟩:=z;have sub:=sub_enumerate;have hT:Heap.IsTuple (Shared.heap ⟨hp,g,d,tk,os⟩) t its:=⟨_,ht,rfl,n,rfl⟩
  wp_walk using AutoSeq1.wpAny_loadPart' ht
  refine wpAny_stack_any fun st=>b_ ?_;split
  ·rename_i c _ _ _ _ _;cases(c==Value.type "enumerate") <;> (wp_walk using AutoSeq1.wpAny_loadPart' ht,Jx hT; exact⟨_,rfl,z⟩)
  ·wp_walk using AutoSeq1.wpAny_loadPart' ht,Jx hT; exact⟨_,rfl,z⟩
theorem Oz{prog:Program}{w:World}{A:Around}{E:Value->Shared->Prop}{s:Shared}{t:Addr}{its:Array Value}{Q:Value->Shared->Prop}(hT:s.heap.IsTuple t its)
  (q:∀h',IsEnum h' (s.heap.objs.size+1) s.heap.objs.size 0 .none->h'.IsTupleIter s.heap.objs.size t 0->(∀b o,s.heap.get? b=some o->h'.get? b=some o)->Q (.ref (s.heap.objs.size+1)) { s with heap:=h' }) :
  wpAny (model prog w) A (call (.type "enumerate") [.ref t]) Q E s:=by
 obtain⟨⟨c,dc,dt,sl⟩,ht,hc,n,hd⟩:=hT;cases(show c=.type "tuple" from hc);cases(show dt=.seq its n from hd);have sz:(tiH s.heap t).objs.size=s.heap.objs.size+1:=iQ ..;have g1:(enH s.heap t).get? (tiH s.heap t).objs.size=some _:=dF _ rfl;have g0:(enH s.heap t).get? s.heap.objs.size=some _:=dJ _ (dF _ rfl);refine callType_new F.called_enumerate ⋯ (F.typeCall_enumerate_1 _) (F.newCall_enumerate_1 _) (fun x=>F.args_object_init_2 x _) F.entry_enumerate_new (Xa t its n dc sl) ⟨ht,?_⟩
 show _/\_;rw[sz] at g1 ⊢;exact⟨⟨_,g1,rfl⟩,q _ g1 ⟨_,g0,rfl,rfl⟩ fun b o e=>dJ _ (dJ _ e)⟩
def Uz(K:Frag)(a:Addr):It:=
 ⟨fun i H=>∃xs x,cB K H a xs/\xs[i]?=some x,fun i H x H'=>∃p y,H p=none/\x=.ref p/\H'=upd H p (.tup [.int i,y])/\∀xs,cB K H a xs->xs[i]?=some y,fun i H=>∃xs,cB K H a xs/\xs.length=i⟩
theorem LQ{P:Program}{w:World}{K:Frag}{elts:List Expr}{x1}{tp:Pos}(a e it:Addr)(hne:e≠it):Turn P w K (.Tuple elts x1 tp) (Uz K a) [e,it] e (fun i h=>(∃old,IsEnum h e it (i:Nat) old)/\h.IsTupleIter it a i) where
 mem:=by simp
 obj:=fun i h st b hb=>by
  obtain⟨⟨old,he⟩,o,ho,c,d⟩:=st;rcases bT.mp hb with z | z
  ·rw[z]; exact⟨_,he,fun v q=>by cases q⟩
  ·rw[fP.mp z]; exact⟨o,ho,fun v q=>by rw[d] at q; cases q⟩
 keep:=fun i h h' st k=>by
  obtain⟨⟨old,he⟩,hi⟩:=st;exact⟨⟨old,k e (by simp) _ he⟩,hi.at fun o q=>k it (by simp) o q⟩
 item:=by
  intro X hP hw hK hc i ae s σ H E I hf st hg;subst hP hw hK;obtain⟨⟨old,he⟩,hi⟩:=st;obtain⟨xs,x,hq,hx⟩:=hg;obtain⟨its,rv,p,hz⟩:=I.tuple hq;obtain⟨u,hu,ru⟩:=rv.get hx;have fe:=hf e (by simp)
  have fi:=hf it (by simp)
  have pT:s.heap.IsTuple a its.toArray:=p
  have nea:e≠a:=fun z=>by
   obtain⟨o,g,c,_⟩:=pT;rw[<- z,he] at g;cases g;exact absurd (show Value.type "enumerate" = Value.type "tuple" from c) ⋯
  have nia:a≠it:=fun z=>by
   obtain⟨o,g,c,_⟩:=pT;obtain⟨o',g',c',_⟩:=hi;rw[z,g'] at g;cases g;rw[c'] at c;exact absurd c ⋯
  have hlt:i<its.toArray.size:=by have:=(gC.mp hu).1; simpa using this
  refine wpAny_pyNext_enum_itemD (vh (A:=X.A.in1) (show X.A.in1.handled=none from I.ok.hd hc) nia its.toArray) he (show _/\_ from⟨hi,pT⟩) hlt hne (fun z=>by rcases bT.mp z with y | y; exact hne y; exact nea (fP.mp y)) fun u' h' tk hu' eo hi' ht hsz kk=>?_
  have eu:u'=u:=by
   have:its[i]?=some u':=by simpa using hu'
   rw[hu] at this; exact(Option.some.inj this).symm
  subst eu;have fr:H s.heap.objs.size=none:=I.hok.fresh (dM _)
  have I1:Inv X ae σ (upd H s.heap.objs.size (.tup [.int i,x])) { s with heap:=s.heap.push { cls:=.type "tuple",data:=.seq #[.int i tk,u'] },toks:=tk }:=
   I.laid (t':=tk) (fun b v z=>dJ _ z) (dM _) ⟨(by show 2<=sizeLine; decide),[.int i tk,u'],.cons ⟨_,rfl⟩ (.cons ru .nil),⟨_,dF _ rfl,rfl,_,rfl⟩⟩
  have le:e<s.heap.objs.size:=cI he;have li:it<s.heap.objs.size:=by obtain⟨o,ho,_⟩:=hi; exact cI ho
  have NP:g8 X ae (upd H s.heap.objs.size (.tup [.int i,x])) e:=⟨by rw[aP (gB le)]; exact fe.1,fe.2⟩
  have fi1:g8 X ae (upd H s.heap.objs.size (.tup [.int i,x])) it:=⟨by rw[aP (gB li)]; exact fi.1,fi.2⟩
  have I2:Inv X ae σ (upd H s.heap.objs.size (.tup [.int i,x])) { s with heap:=h',toks:=tk+1 }:=I1.O9 (t':=tk+1) (fun b o z1 z2 z=>by
   by_cases y:b=s.heap.objs.size
   ·subst y;rw[dF _ rfl] at z;cases z;exact ht
   ·rcases Heap.get?_push_cases z with v | v
    ·exact absurd v.1 y
    ·exact kk b o z1 z2 v) NP fi1
  refine⟨_,rfl,wpAny_letOwnedTupleGo_enum eo fun h2 en sb=>⟨.ref s.heap.objs.size,_,I2.turned (it:=e) (t':=tk+1) (fun b o hb z=>sb.extBut b o hb z) NP.1 NP.2.1 NP.2.2.2.1 NP.2.2.2.2.1 NP.2.2.2.2.2,rfl,⟨_,x,fr,rfl,rfl,fun ys hy=>by rw[I.uA hy hq]; exact hx⟩,⟨⟨_,en⟩,?_⟩,fun b hb=>?_⟩⟩
  ·exact hi'.1.at fun o z=>sb.extBut it o (Ne.symm hne) z
  ·rcases bT.mp hb with z | z
   ·rw[z]; exact NP.1
   ·rw[fP.mp z]; exact fi1.1
 done:=by
  intro X hP hw hK hc i ae s σ H E I hf st hg;subst hP hw hK;obtain⟨⟨old,he⟩,hi⟩:=st;obtain⟨xs,hq,hx⟩:=hg;obtain⟨its,rv,p,hz⟩:=I.tuple hq;have hl:=rv.length;have pT:s.heap.IsTuple a its.toArray:=p;obtain⟨f0,f1,f2,f3,f4,f5⟩:=hf it (by simp)
  have nia:a≠it:=fun z=>by
   obtain⟨o,g,c,_⟩:=pT;obtain⟨o',g',c',_⟩:=hi;rw[z,g'] at g;cases g;rw[c'] at c;exact absurd c ⋯
  have D:=vh (prog:=X.prog) (w:=X.w) (A:=X.A.in1) (show X.A.in1.handled=none from I.ok.hd hc) nia its.toArray;refine wpAny_pyNext_enum_endD D he (show _/\_ from⟨?_,pT⟩) fun h' eb=>⟨rfl,I.turned (t':=s.toks) (fun b o hb z=>eb b o hb z) f0 f1 f3 f4 f5⟩;have e:its.toArray.size=i:=by simp; omega
  rw[e]; exact hi
 self:=fun _ _ _ _ _ st h=>by
  obtain⟨⟨old,he⟩,_⟩:=st;exact Qe he h
section
variable{X:Cx}
def Nz(K:Frag)(ta:TA):TI:=fun σ H R=>ta σ H fun vs H1=>∃a,vs=[.ref a]/\(∃xs,cB K H1 a xs)/\R (Uz K a) H1
theorem J_{K:Frag}{e:Expr}{elts:List Expr}{x1}{tp p pos:Pos}{ta:TA}(hK:X.K=K)(hm:X.mg "enumerate" = none)(ha:PA X [e] ta)(hg:Gl X "enumerate" := by rfl)(h1:cF e=true:=by rfl) :
  PI X (.Tuple elts x1 tp) (.Call (.Name "enumerate" p) [e] [] pos) (Nz K ta):=by
 subst hK;symm;intro R I h;refine qY (ir I hg hm uq ?_ ⋯ ⋯)
 refine PyProof.Rows.callWith_type1 (dI (ha pos ae s σ H _ I h) fun us s1 ⟨vs,H1,I1,r1,q1⟩=>?_) (cW h1) (cU (es:=[]) rfl);obtain⟨a,rfl,⟨xs,hq⟩,q⟩:=q1;obtain⟨u,rfl,ru⟩:=r1.one;cases ru;obtain⟨its,rv,pl,hz⟩:=I1.tuple hq;refine Oz (show s1.heap.IsTuple a its.toArray from pl) fun h' he hi kk=>?_;have I2:Inv X ae σ H1 { s1 with heap:=h' }:=I1.kept (t':=s1.toks) kk
 have f1:H1 (s1.heap.objs.size+1)=none:=I1.hok.fresh (Nat.le_succ _);have f0:H1 s1.heap.objs.size=none:=I1.hok.fresh (dM _);refine Qe he ⟨s1.heap.objs.size+1,_,_,Uz X.K a,H1,rfl,I2,LQ a (s1.heap.objs.size+1) s1.heap.objs.size (Nat.succ_ne_self _),⟨⟨_,he⟩,hi⟩,fun b hb=>?_,q⟩;rcases bT.mp hb with z | z
 ·rw[z]; exact I1.rF (Nat.le_succ _) f1
 ·rw[fP.mp z]; exact I1.rF (dM _) f0
end
end L2
namespace L2
open PySem PySem.Spec PyProof.Rows
structure Zap(z TI TO i1 i2:Addr)(f1 f2:List Addr):Prop where
 a1:TI≠z
 a2:TO≠z
 a3:TI≠TO
 a4:i1≠z
 a5:i2≠z
 a6:TO≠i1
 a7:TO≠i2
 a8:i1≠i2
 b1:z∉f1
 b2:z∉f2
 b3:TO∉f1
 b4:TO∉f2
 b5:i1∉f2
 b6:i2∉f1
section
variable{prog:Program}{w:World}{A:Around}{E:Value->Shared->Prop}{s:Shared}
theorem RV{b:Addr}{h h':Heap}{f:List Addr}(sb:Heap.SameBut b h h')(hb:b∉f):∀c∈f,∀o,h.get? c=some o->h'.get? c=some o:=fun c hc o e=>sb.extBut c o (fun z=>hb (z▸hc)) e
theorem Va{z TI TO i1 i2:Addr}{f1 f2:List Addr}{n1 n2 k:Nat}{P1 P2:Nat->Value->Prop}{S1 S2:Nat->Heap->Prop}{a b:Value}{Q:Value->Shared->Prop}(Z:Zap z TI TO i1 i2 f1 f2)(D1:Draws prog w A i1 f1 n1 P1 S1)(D2:Draws prog w A i2 f2 n2 P2 S2)
  (hz:IsZip s.heap z TI TO .none) (hi:IsPair s.heap TI (.ref i1) (.ref i2)) (ho:IsPair s.heap TO a b) (s1:S1 k s.heap) (s2:S2 k s.heap) (k1:k<n1) (k2:k<n2)
  (q:∀x y h' tk,P1 k x->P2 k y->IsZip h' z TI TO (rawInt s.heap.objs.size)->IsPair h' TO x y->S1 (k+1) h'->S2 (k+1) h'->IsPair h' s.heap.objs.size x y->h'.objs.size=s.heap.objs.size+1->(∀c o,c≠z->c≠TO->c≠i1->c≠i2->s.heap.get? c=some o->h'.get? c=some o)->Q (.ref s.heap.objs.size) { s with heap:=h',toks:=tk }) :
  wpAny (model prog w) A (Builtin.«zip.__next__» ⟨[.ref z],[]⟩) (fun fin s'=>∃v,fin=.done (.ret v)/\Q v s') E s:=by
 show wpAny _ _ (field (.ref z) 2 >>= _) _ _ _; refine aY (jT hz rfl (x:=.bool false) rfl ?_);show wpAny _ _ (field (.ref z) 3 >>= _) _ _ _; refine aY (jT hz rfl (x:=.ref TI) rfl (aY (qX hi rfl ?_)));show wpAny _ _ (Builtin.SmallTypes.ownedTupleIsFree (.ref z) >>= _) _ _ _; unfold Builtin.SmallTypes.ownedTupleIsFree;refine aY (aY (jT hz rfl (x:=.none) rfl (b_ ?_))); simp only[if_true];refine aY (qH (aY (jT hz rfl (x:=.ref TO) rfl (aY (Dp hz (by simp) fun hA zA sA=>?_)))))
 replace zA:IsZip hA z TI TO .ellipsis:=zA
 refine aY ?_; simp only[List.zipIdx_cons,List.zipIdx_nil,Df,List.forIn_nil];refine aY (aY (JL ?_)); show wpAny _ _ (Builtin.SmallTypes.nextOf (.ref i1) >>= _) _ _ _;refine aY (D1.item k _ _ _ k1 (D1.frame _ _ _ s1 (RV sA Z.b1)) fun x hB tB pB stb sB=>b_ ?_);have oB:IsPair hB TO a b:=sB.extBut _ _ Z.a6 (sA.extBut _ _ Z.a2 ho);have uB:S2 k hB:=D2.frame _ _ _ (D2.frame _ _ _ s2 (RV sA Z.b2)) (RV sB Z.b5);refine aY (qX oB rfl (aY (wpAny_updateSeq_pair oB fun hC oC sC=>?_)))
 replace oC:IsPair hC TO x b:=oC
 refine aY (yE (b_ (aY (aY (JL ?_))))); show wpAny _ _ (Builtin.SmallTypes.nextOf (.ref i2) >>= _) _ _ _;refine aY (D2.item k _ _ _ k2 (D2.frame _ _ _ uB (RV sC Z.b4)) fun y hD tD pD std sD=>b_ ?_);have oD:IsPair hD TO x b:=sD.extBut _ _ Z.a7 oC;refine aY (qX oD rfl (aY (wpAny_updateSeq_pair oD fun hF oF sF=>?_)))
 replace oF:IsPair hF TO x y:=oF
 refine aY (yE (b_ (b_ (aY (qX oF rfl (aY (wpAny_newTuple ?_)))))));have zF:IsZip hF z TI TO .ellipsis:=sF.extBut _ _ Z.a2.symm (sD.extBut _ _ Z.a5.symm (sC.extBut _ _ Z.a2.symm (sB.extBut _ _ Z.a4.symm zA)));have size:hF.objs.size=s.heap.objs.size:=by rw[sF.1,sD.1,sC.1,sB.1,sA.1]
 have lz:z<hF.objs.size:=cI zF;show wpAny _ _ (Builtin.SmallTypes.ownedTupleHandOut (.ref z) (.ref hF.objs.size) >>= _) _ _ _; unfold Builtin.SmallTypes.ownedTupleHandOut;have zG:IsZip (hF.push { cls:=.type "tuple",data:=.seq #[x,y] }) z TI TO .ellipsis:=dJ _ zF;refine aY (aY (Dp zG (by simp) fun hI zI sI=>?_))
 replace zI:IsZip hI z TI TO (rawInt hF.objs.size):=zI
 refine Dp zI (by simp) fun hJ zJ sJ=>b_ ⟨_,rfl,?_⟩
 replace zJ:IsZip hJ z TI TO (rawInt hF.objs.size):=zJ
 have up:∀c o,c≠z->hF.get? c=some o->hJ.get? c=some o:=fun c o n e=>sJ.extBut _ _ n (sI.extBut _ _ n (dJ _ e));have tJ:IsPair hJ hF.objs.size x y:=sJ.extBut _ _ (JG lz) (sI.extBut _ _ (JG lz) (dF _ rfl));have szJ:hJ.objs.size=hF.objs.size+1:=by rw[sJ.1,sI.1,iQ]
 have kB:∀c o,c≠z->c≠TO->c≠i1->c≠i2->s.heap.get? c=some o->hF.get? c=some o:=fun c o n1 n2 n3 n4 e=>sF.extBut _ _ n2 (sD.extBut _ _ n4 (sC.extBut _ _ n2 (sB.extBut _ _ n3 (sA.extBut _ _ n1 e))));have u1:S1 (k+1) hF:=D1.frame _ _ _ (D1.frame _ _ _ (D1.frame _ _ _ stb (RV sC Z.b3)) (RV sD Z.b6)) (RV sF Z.b3);have u2:S2 (k+1) hF:=D2.frame _ _ _ std (RV sF Z.b4);show Q (.ref hF.objs.size) _;rw[size] at zJ tJ szJ ⊢;exact q x y hJ tD pB pD zJ (up _ _ Z.a2 oF) (D1.frame _ _ _ u1 fun c hc o e=>up c o (fun z'=>Z.b1 (z'▸hc)) e) (D2.frame _ _ _ u2 fun c hc o e=>up c o (fun z'=>Z.b2 (z'▸hc)) e) tJ szJ fun c o n1 n2 n3 n4 e=>up c o n1 (kB c o n1 n2 n3 n4 e)
theorem Ry{z TI TO i1 i2:Addr}{f1 f2:List Addr}{n1 n2 k:Nat}{P1 P2:Nat->Value->Prop}{S1 S2:Nat->Heap->Prop}{a b:Value}{Q:Fin->Shared->Prop}(Z:Zap z TI TO i1 i2 f1 f2)(D1:Draws prog w A i1 f1 n1 P1 S1)(D2:Draws prog w A i2 f2 n2 P2 S2)
  (hz:IsZip s.heap z TI TO .none) (hi:IsPair s.heap TI (.ref i1) (.ref i2)) (ho:IsPair s.heap TO a b) (s1:S1 k s.heap) (s2:S2 k s.heap) (kk:k=n1\/(k<n1/\k=n2))
  (q:∀h' e,(∀c o,c≠z->c≠TO->c≠i1->c≠i2->s.heap.get? c=some o->h'.get? c=some o)->(∃o,h'.get? e=some o/\o.cls=.type "StopIteration")->∀tk,E (.ref e) { s with heap:=h',toks:=tk }) :
  wpAny (model prog w) A (Builtin.«zip.__next__» ⟨[.ref z],[]⟩) Q E s:=by
 show wpAny _ _ (field (.ref z) 2 >>= _) _ _ _; refine aY (jT hz rfl (x:=.bool false) rfl ?_);show wpAny _ _ (field (.ref z) 3 >>= _) _ _ _; refine aY (jT hz rfl (x:=.ref TI) rfl (aY (qX hi rfl ?_)));show wpAny _ _ (Builtin.SmallTypes.ownedTupleIsFree (.ref z) >>= _) _ _ _; unfold Builtin.SmallTypes.ownedTupleIsFree;refine aY (aY (jT hz rfl (x:=.none) rfl (b_ ?_))); simp only[if_true];refine aY (qH (aY (jT hz rfl (x:=.ref TO) rfl (aY (Dp hz (by simp) fun hA zA sA=>?_)))))
 replace zA:IsZip hA z TI TO .ellipsis:=zA
 refine aY ?_; simp only[List.zipIdx_cons,List.zipIdx_nil,Df,List.forIn_nil];refine aY (aY (JL ?_)); show wpAny _ _ (Builtin.SmallTypes.nextOf (.ref i1) >>= _) _ _ _;rcases kk with e1 | ⟨k1,e2⟩
 ·have s1':=s1;rw[e1] at s1';refine aY (D1.done _ _ _ (D1.frame _ _ _ s1' (RV sA Z.b1)) fun hB x sB hx=>?_);obtain⟨ox,gx,cx⟩:=hx;have zB:IsZip hB z TI TO .ellipsis:=sB _ _ Z.a4.symm zA;have nx:x≠z:=fun y=>by subst y; rw[zB] at gx; cases gx; exact absurd (show Value.type "zip" = Value.type "StopIteration" from cx) ⋯
  refine Dp zB (by simp) fun hC _ sC=>q hC x (fun c o m1 _ m3 _ e=>sC.extBut _ _ m1 (sB _ _ m3 (sA.extBut _ _ m1 e))) ⟨ox,sC.extBut _ _ nx gx,cx⟩ _
 ·refine aY (D1.item k _ _ _ k1 (D1.frame _ _ _ s1 (RV sA Z.b1)) fun x hB tB pB stb sB=>b_ ?_);have oB:IsPair hB TO a b:=sB.extBut _ _ Z.a6 (sA.extBut _ _ Z.a2 ho);have uB:S2 k hB:=D2.frame _ _ _ (D2.frame _ _ _ s2 (RV sA Z.b2)) (RV sB Z.b5);refine aY (qX oB rfl (aY (wpAny_updateSeq_pair oB fun hC oC sC=>?_)));refine aY (yE (b_ (aY (aY (JL ?_))))); show wpAny _ _ (Builtin.SmallTypes.nextOf (.ref i2) >>= _) _ _ _;have uC:S2 n2 hC:=by rw[<- e2]; exact D2.frame _ _ _ uB (RV sC Z.b4)
  refine aY (D2.done _ _ _ uC fun hD v sD hx=>?_);obtain⟨ox,gx,cx⟩:=hx;have zD:IsZip hD z TI TO .ellipsis:=sD _ _ Z.a5.symm (sC.extBut _ _ Z.a2.symm (sB.extBut _ _ Z.a4.symm zA));have nx:v≠z:=fun y=>by subst y; rw[zD] at gx; cases gx; exact absurd (show Value.type "zip" = Value.type "StopIteration" from cx) ⋯
  refine Dp zD (by simp) fun hF _ sF=>q hF v (fun c o m1 m2 m3 m4 e=>sF.extBut _ _ m1 (sD _ _ m4 (sC.extBut _ _ m2 (sB.extBut _ _ m3 (sA.extBut _ _ m1 e))))) ⟨ox,sF.extBut _ _ nx gx,cx⟩ _
theorem abJ{z TI TO i1 i2:Addr}{f1 f2:List Addr}{n1 n2 k:Nat}{P1 P2:Nat->Value->Prop}{S1 S2:Nat->Heap->Prop}{a b:Value}{Q:Option Value->Shared->Prop}(Z:Zap z TI TO i1 i2 f1 f2)(D1:Draws prog w A.in1 i1 f1 n1 P1 S1)(D2:Draws prog w A.in1 i2 f2 n2 P2 S2)
  (hz:IsZip s.heap z TI TO .none) (hi:IsPair s.heap TI (.ref i1) (.ref i2)) (ho:IsPair s.heap TO a b) (s1:S1 k s.heap) (s2:S2 k s.heap) (k1:k<n1) (k2:k<n2)
  (q:∀x y h' tk,P1 k x->P2 k y->IsZip h' z TI TO (rawInt s.heap.objs.size)->IsPair h' TO x y->S1 (k+1) h'->S2 (k+1) h'->IsPair h' s.heap.objs.size x y->h'.objs.size=s.heap.objs.size+1->(∀c o,c≠z->c≠TO->c≠i1->c≠i2->s.heap.get? c=some o->h'.get? c=some o)->Q (some (.ref s.heap.objs.size)) { s with heap:=h',toks:=tk }) :
  wpAny (model prog w) A (pyNext (.ref z)) Q E s:=by
 have ty:s.TypeIs (.ref z) "zip" := ⟨_,hz,rfl⟩;unfold pyNext;refine aY (wpAny_attempt (R9 (name:=Str.ofString "__next__") ty F.slot_zip_next (yC F.slot_zip_next ty F.entry_zip_next ?_ (F.args_zip_next_1 _))));exact Va Z D1 D2 hz hi ho s1 s2 k1 k2 fun x y h' tk p1 p2 v1 v2 v3 v4 v5 v6 v7=>b_ (q x y h' tk p1 p2 v1 v2 v3 v4 v5 v6 v7)
theorem YZ{z TI TO i1 i2:Addr}{f1 f2:List Addr}{n1 n2 k:Nat}{P1 P2:Nat->Value->Prop}{S1 S2:Nat->Heap->Prop}{a b:Value}{Q:Option Value->Shared->Prop}(Z:Zap z TI TO i1 i2 f1 f2)(D1:Draws prog w A.in1 i1 f1 n1 P1 S1)(D2:Draws prog w A.in1 i2 f2 n2 P2 S2)
  (hz:IsZip s.heap z TI TO .none) (hi:IsPair s.heap TI (.ref i1) (.ref i2)) (ho:IsPair s.heap TO a b) (s1:S1 k s.heap) (s2:S2 k s.heap) (kk:k=n1\/(k<n1/\k=n2))
  (q:∀h' tk,(∀c o,c≠z->c≠TO->c≠i1->c≠i2->s.heap.get? c=some o->h'.get? c=some o)->Q none { s with heap:=h',toks:=tk }):wpAny (model prog w) A (pyNext (.ref z)) Q E s:=by
 have ty:s.TypeIs (.ref z) "zip" := ⟨_,hz,rfl⟩;unfold pyNext;refine aY (wpAny_attempt (R9 (name:=Str.ofString "__next__") ty F.slot_zip_next (yC F.slot_zip_next ty F.entry_zip_next ?_ (F.args_zip_next_1 _))));refine Ry Z D1 D2 hz hi ho s1 s2 kk fun h' e k hx tk=>?_;obtain⟨o,g,c⟩:=hx;exact aY (wpAny_isInstance (T:="StopIteration") (b:=true) ⟨o,g,c⟩ isSubtype_stop (b_ (q _ tk k)))
end
abbrev zA2(h:Heap)(t1 t2:Addr):Heap:=tiH (tiH h t1) t2
abbrev zA3(h:Heap)(t1 t2:Addr):Heap:=(zA2 h t1 t2).push { cls:=.type "tuple",data:=.seq #[.ref h.objs.size,.ref (tiH h t1).objs.size] }
abbrev zA4(h:Heap)(t1 t2:Addr):Heap:=(zA3 h t1 t2).push { cls:=.type "tuple",data:=.seq #[.none,.none] }
abbrev zA5(h:Heap)(t1 t2:Addr):Heap:=(zA4 h t1 t2).push { cls:=.type "zip",data:=.fields #[.none,.bool false,.bool false,.ref (zA2 h t1 t2).objs.size,.ref (zA3 h t1 t2).objs.size] }
theorem aaa(t1 t2:Addr)(xs ys:Array Value):Meets (Builtin.«zip.__new__» ⟨[.type "zip",.ref t1,.ref t2],[]⟩) (fun _ R s=>s.heap.IsTuple t1 xs/\s.heap.IsTuple t2 ys/\R (.ok (.ret (.ref (zA4 s.heap t1 t2).objs.size))) { s with heap:=zA5 s.heap t1 t2 }):=
 .of_wp fun prog w A R s z=>by
  obtain⟨hp,g,d,tk,os⟩:=s;obtain⟨hx,hy,z⟩:=z;have sub:=sub_zip;have hX:Heap.IsTuple (Shared.heap ⟨hp,g,d,tk,os⟩) t1 xs:=hx;have hY:Heap.IsTuple (Shared.heap ⟨tiH hp t1,g,d,tk,os⟩) t2 ys:=hy.push _
  wp_walk using Jx hX,Jx hY
  exact⟨_,rfl,z⟩
theorem Ua{prog:Program}{w:World}{A:Around}{E:Value->Shared->Prop}{s:Shared}{t1 t2:Addr}{xs ys:Array Value}{Q:Value->Shared->Prop}(hx:s.heap.IsTuple t1 xs)(hy:s.heap.IsTuple t2 ys)
  (q:∀h',IsZip h' (s.heap.objs.size+4) (s.heap.objs.size+2) (s.heap.objs.size+3) .none->IsPair h' (s.heap.objs.size+2) (.ref s.heap.objs.size) (.ref (s.heap.objs.size+1))->IsPair h' (s.heap.objs.size+3) .none .none ->
   h'.IsTupleIter s.heap.objs.size t1 0->h'.IsTupleIter (s.heap.objs.size+1) t2 0->(∀c o,s.heap.get? c=some o->h'.get? c=some o)->Q (.ref (s.heap.objs.size+4)) { s with heap:=h' }) :
  wpAny (model prog w) A (call (.type "zip") [.ref t1,.ref t2]) Q E s:=by
 have n1:(tiH s.heap t1).objs.size=s.heap.objs.size+1:=iQ ..;have n2:(zA2 s.heap t1 t2).objs.size=s.heap.objs.size+2:=by rw[iQ,n1]
 have n3:(zA3 s.heap t1 t2).objs.size=s.heap.objs.size+3:=by rw[iQ,n2]
 have n4:(zA4 s.heap t1 t2).objs.size=s.heap.objs.size+4:=by rw[iQ,n3]
 have up:∀c o,s.heap.get? c=some o->(zA5 s.heap t1 t2).get? c=some o:=fun c o e=>dJ _ (dJ _ (dJ _ (dJ _ (dJ _ e))));have v5:(zA5 s.heap t1 t2).get? (zA4 s.heap t1 t2).objs.size=some _:=dF _ rfl;have v4:(zA5 s.heap t1 t2).get? (zA3 s.heap t1 t2).objs.size=some _:=dJ _ (dF _ rfl);have v3:(zA5 s.heap t1 t2).get? (zA2 s.heap t1 t2).objs.size=some _:=dJ _ (dJ _ (dF _ rfl));have v2:(zA5 s.heap t1 t2).get? (tiH s.heap t1).objs.size=some _:=dJ _ (dJ _ (dJ _ (dF _ rfl)));have v1:(zA5 s.heap t1 t2).get? s.heap.objs.size=some _:=dJ _ (dJ _ (dJ _ (dJ _ (dF _ rfl))));refine callType_new F.called_zip ⋯ (F.typeCall_zip_2 _ _) (F.newCall_zip_2 _ _) (fun x=>F.args_object_init_3 x _ _) F.entry_zip_new (aaa t1 t2 xs ys) ⟨hx,hy,?_⟩
 show _/\_;rw[n2,n3,n4] at v5;rw[n1,n2] at v3;rw[n3] at v4;rw[n1] at v2;rw[n4];exact⟨⟨_,v5,rfl⟩,q _ v5 v3 v4 ⟨_,v1,rfl,rfl⟩ ⟨_,v2,rfl,rfl⟩ up⟩
theorem Inv.Fx{X:Cx}{ae:List (Addr×Obj)}{σ:St}{H:Hp}{s:Shared}{h':Heap}{t':Nat}{fp:List Addr}(I:Inv X ae σ H s)(k:∀b o,b∉fp->s.heap.get? b=some o->h'.get? b=some o)(hf:∀b∈fp,g8 X ae H b) :
  Inv X ae σ H { s with heap:=h',toks:=t' }:=by
 have ni:∀b u,H b=some u->b∉fp:=fun b u q hb=>by rw[(hf b hb).1] at q; cases q
 refine I.step (g':=s.gens) (d':=s.drawn) (ch:=fp) (fun b hb=>?_) (fun b o _ _ hc q _=>k b o hc q) (fun b o _ _ hc q _=>⟨o.slots,k b o hc q⟩) (fun _ _ _ _ n=>n) (fun b o hc q=>⟨o,k b o hc q⟩) (fun _ _ q=>q) (fun _ _ _ q=>q)
  (fun b ps q=>⟨#[],by rw[q]; simp⟩) (fun m hm=>?_) (fun b u q=>?_) I.bare
 ·obtain⟨_,f1,_,f3,f4,f5⟩:=hf b hb;exact⟨f3,(hf b hb).2.1,f4,f5⟩
 ·obtain⟨o,es,ep,ho,r⟩:=hm;exact⟨o,es,ep,k _ o (fun hb=>(hf _ hb).2.1 rfl) ho,r⟩
 ·refine(I.hok b u q).stay (fun c v hc z=>k c v ?_ z) (fun _ z=>z) fun _ _ z=>z;rcases hc with z | z
  ·rw[z]; exact ni b u q
  ·exact ni c _ z
theorem ael{X:Cx}{ae:List (Addr×Obj)}{σ:St}{H:Hp}{s:Shared}{a b:Addr}{xs:List V}(I:Inv X ae σ H s)(hq:cB X.K H a xs)(hf:g8 X ae H b):a≠b:=fun z=>by
 rcases hq with h | ⟨o,its,n,hk,_⟩
 ·rcases h with h | ⟨o,h⟩ <;> (rw[z,hf.1] at h; cases h)
 ·have e:X.base.get? a=some o:=I.ok.mod.Xn a o hk;rcases hf.2.2.2.1 with y | y
  ·exact I.ok.Kl a o e (z▸y)
  ·have l:=cI e;have m:=I.ok.U7;rw[z] at l;exact absurd (lF l (qt m y)) (uP _)
structure Knd where
 Sq:Frag->Hp->Addr->List V->Prop
 It:Heap->Addr->Addr->Nat->Prop
 Pl:Heap->Addr->Array Value->Prop
 obj:∀{h:Heap}{i a:Addr}{n:Nat},It h i a n->∃o,h.get? i=some o/\∀v,o.data≠.cell v
 keep:∀{h h':Heap}{i a:Addr}{n:Nat},It h i a n->(∀o,h.get? i=some o->h'.get? i=some o)->It h' i a n
 inv:∀{X:Cx}{ae:List (Addr×Obj)}{σ:St}{H:Hp}{s:Shared}{a:Addr}{xs:List V},Inv X ae σ H s->Sq X.K H a xs->∃us:List Value,Vals xs us/\Pl s.heap a us.toArray
 inj:∀{X:Cx}{ae:List (Addr×Obj)}{σ:St}{H:Hp}{s:Shared}{a:Addr}{xs ys:List V},Inv X ae σ H s->Sq X.K H a xs->Sq X.K H a ys->xs=ys
 ne:∀{X:Cx}{ae:List (Addr×Obj)}{σ:St}{H:Hp}{s:Shared}{a b:Addr}{xs:List V},Inv X ae σ H s->Sq X.K H a xs->g8 X ae H b->a≠b
 dr:∀{prog:Program}{w:World}{A:Around},A.handled=none->∀{i a:Addr},a≠i->∀us:Array Value,Draws prog w A i [i,a] us.size (fun n v=>us[n]?=some v) (fun n h=>It h i a n/\Pl h a us)
def kT:Knd:=⟨fun K=>cB K,fun h i a n=>h.IsTupleIter i a n,fun h a us=>h.IsTuple a us,fun⟨o,g,_,d⟩=>⟨o,g,fun v q=>by rw[d] at q; cases q⟩,fun g k=>g.at k,fun I h=>(I.tuple h).elim fun us p=>⟨us,p.1,p.2.1⟩,fun I h h'=>I.uA h h',fun I h f=>ael I h f,fun hh _ _ n us=>vh hh n us⟩
def Yz(k1 k2:Knd)(K:Frag)(a b:Addr):It:=
 ⟨fun i H=>∃xs ys x y,k1.Sq K H a xs/\k2.Sq K H b ys/\xs[i]?=some x/\ys[i]?=some y,fun i H v H'=>∃p x y,H p=none/\v=.ref p/\H'=upd H p (.tup [x,y])/\(∀xs,k1.Sq K H a xs->xs[i]?=some x)/\∀ys,k2.Sq K H b ys->ys[i]?=some y,
  fun i H=>∃xs ys,k1.Sq K H a xs/\k2.Sq K H b ys/\(i=xs.length\/(i<xs.length/\i=ys.length))⟩
structure aiw(k1 k2:Knd)(z TI TO i1 i2 a b:Addr)(i:Nat)(h:Heap):Prop where
 z:IsZip h z TI TO .none
 p:IsPair h TI (.ref i1) (.ref i2)
 o:∃x y,IsPair h TO x y
 l:k1.It h i1 a i
 r:k2.It h i2 b i
abbrev afp:=Yz kT kT
theorem pW(k1 k2:Knd){P:Program}{w:World}{K:Frag}{elts:List Expr}{x1}{tp:Pos}(a b z TI TO i1 i2:Addr)(n1:TI≠z)(n2:TO≠z)(n3:TI≠TO)(n4:i1≠z)(n5:i2≠z)(n6:TO≠i1)(n7:TO≠i2)(n8:i1≠i2)(n9:TI≠i1)(n10:TI≠i2) :
  Turn P w K (.Tuple elts x1 tp) (Yz k1 k2 K a b) [z,TI,TO,i1,i2] z (aiw k1 k2 z TI TO i1 i2 a b) where
 mem:=by simp
 obj:=fun i h st c hc=>by
  obtain⟨g1,g2,⟨x,y,g3⟩,g4,g5⟩:=st;simp only[bT,jW,or_false] at hc;rcases hc with rfl | rfl | rfl | rfl | rfl
  ·exact⟨_,g1,fun v q=>by cases q⟩
  ·exact⟨_,g2,fun v q=>by cases q⟩
  ·exact⟨_,g3,fun v q=>by cases q⟩
  ·exact k1.obj g4
  ·exact k2.obj g5
 keep:=fun i h h' st k=>by
  obtain⟨g1,g2,⟨x,y,g3⟩,g4,g5⟩:=st;exact⟨k z (by simp) _ g1,k TI (by simp) _ g2,⟨x,y,k TO (by simp) _ g3⟩,k1.keep g4 fun o e=>k i1 (by simp) o e,k2.keep g5 fun o e=>k i2 (by simp) o e⟩
 item:=by
  intro X hP hw hK hc i ae s σ H E I hf st hg;subst hP hw hK;obtain⟨g1,g2,⟨xo,yo,g3⟩,g4,g5⟩:=st;obtain⟨xs,ys,x,y,hx,hy,ex,ey⟩:=hg;obtain⟨us,ru,pu⟩:=k1.inv I hx;obtain⟨vs,rv,pv⟩:=k2.inv I hy;obtain⟨u,hu,ru'⟩:=ru.get ex;obtain⟨v,hv,rv'⟩:=rv.get ey;have ha:∀c∈[z,TI,TO,i1,i2],a≠c:=fun c hc=>k1.ne I hx (hf c hc);have hb:∀c∈[z,TI,TO,i1,i2],b≠c:=fun c hc=>k2.ne I hy (hf c hc);have hh:X.A.in1.handled=none:=I.ok.hd hc;have Z:Zap z TI TO i1 i2 [i1,a] [i2,b]:=⟨n1,n2,n3,n4,n5,n6,n7,n8,by simp; exact⟨n4.symm,(ha z (by simp)).symm⟩,by simp; exact⟨n5.symm,(hb z (by simp)).symm⟩,by simp; exact⟨n6,(ha TO (by simp)).symm⟩,by simp; exact⟨n7,(hb TO (by simp)).symm⟩,by simp; exact⟨n8,(hb i1 (by simp)).symm⟩,by simp; exact⟨n8.symm,(ha i2 (by simp)).symm⟩⟩
  refine abJ Z (k1.dr hh (ha i1 (by simp)) us.toArray) (k2.dr hh (hb i2 (by simp)) vs.toArray) g1 g2 g3 (show _/\_ from⟨g4,pu⟩) (show _/\_ from⟨g5,pv⟩) (by have:=(gC.mp hu).1; simpa using this) (by have:=(gC.mp hv).1; simpa using this)
   fun u' v' h' tk hu' hv' z1 z2 z3 z4 z5 z6 kk=>?_
  have eu:u'=u:=by
   have:us[i]?=some u':=by simpa using hu'
   rw[hu] at this; exact(Option.some.inj this).symm
  have ev:v'=v:=by
   have:vs[i]?=some v':=by simpa using hv'
   rw[hv] at this; exact(Option.some.inj this).symm
  subst eu ev;have fr:H s.heap.objs.size=none:=I.hok.fresh (dM _)
  have I1:Inv X ae σ (upd H s.heap.objs.size (.tup [x,y])) { s with heap:=s.heap.push { cls:=.type "tuple",data:=.seq #[u',v'] },toks:=tk }:=
   I.laid (t':=tk) (fun b v z=>dJ _ z) (dM _) ⟨(by show 2<=sizeLine; decide),[u',v'],.cons ru' (.cons rv' .nil),⟨_,dF _ rfl,rfl,_,rfl⟩⟩
  have lt:∀c∈[z,TI,TO,i1,i2],c<s.heap.objs.size:=fun c hc=>by
   simp only[bT,jW,or_false] at hc;rcases hc with rfl | rfl | rfl | rfl | rfl
   ·exact cI g1
   ·exact cI g2
   ·exact cI g3
   ·obtain⟨o,e,_⟩:=k1.obj g4; exact cI e
   ·obtain⟨o,e,_⟩:=k2.obj g5; exact cI e
  have f1:∀c∈[z,TI,TO,i1,i2],g8 X ae (upd H s.heap.objs.size (.tup [x,y])) c:=fun c hc=>⟨by rw[aP (gB (lt c hc))]; exact(hf c hc).1,(hf c hc).2⟩
  have I2:Inv X ae σ (upd H s.heap.objs.size (.tup [x,y])) { s with heap:=h',toks:=tk }:=I1.Fx (t':=tk) (fun c o nc e=>by
   have m:∀d∈[z,TI,TO,i1,i2],c≠d:=fun d hd y=>nc (y▸hd);by_cases y:c=s.heap.objs.size
   ·subst y;rw[dF _ rfl] at e;cases e;exact z5
   ·rcases Heap.get?_push_cases e with w | w
    ·exact absurd w.1 y
    ·exact kk c o (m z (by simp)) (m TO (by simp)) (m i1 (by simp)) (m i2 (by simp)) w) f1
  have g2':IsPair h' TI (.ref i1) (.ref i2):=kk _ _ n1 n3 n9 n10 g2;refine⟨_,rfl,wpAny_letOwnedTupleGo_zip z1 fun h2 zz sb=>⟨.ref s.heap.objs.size,_,I2.Fx (fp:=[z,TI,TO,i1,i2]) (t':=tk) (fun c o nc e=>sb.extBut c o (fun y=>nc (by simp[y])) e) f1,rfl,⟨_,x,y,fr,rfl,rfl,fun xs' h=>by rw[k1.inj I h hx]; exact ex,fun ys' h=>by rw[k2.inj I h hy]; exact ey⟩,⟨zz,sb.extBut _ _ n1 g2',⟨_,_,sb.extBut _ _ n2 z2⟩,?_,?_⟩,fun c hc=>(f1 c hc).1⟩⟩
  ·exact k1.keep z3.1 fun o e=>sb.extBut i1 o n4 e
  ·exact k2.keep z4.1 fun o e=>sb.extBut i2 o n5 e
 done:=by
  intro X hP hw hK hc i ae s σ H E I hf st hg;subst hP hw hK;obtain⟨g1,g2,⟨xo,yo,g3⟩,g4,g5⟩:=st;obtain⟨xs,ys,hx,hy,hl⟩:=hg;obtain⟨us,ru,pu⟩:=k1.inv I hx;obtain⟨vs,rv,pv⟩:=k2.inv I hy;have ha:∀c∈[z,TI,TO,i1,i2],a≠c:=fun c hc=>k1.ne I hx (hf c hc);have hb:∀c∈[z,TI,TO,i1,i2],b≠c:=fun c hc=>k2.ne I hy (hf c hc);have hh:X.A.in1.handled=none:=I.ok.hd hc;have Z:Zap z TI TO i1 i2 [i1,a] [i2,b]:=⟨n1,n2,n3,n4,n5,n6,n7,n8,by simp; exact⟨n4.symm,(ha z (by simp)).symm⟩,by simp; exact⟨n5.symm,(hb z (by simp)).symm⟩,by simp; exact⟨n6,(ha TO (by simp)).symm⟩,by simp; exact⟨n7,(hb TO (by simp)).symm⟩,by simp; exact⟨n8,(hb i1 (by simp)).symm⟩,by simp; exact⟨n8.symm,(ha i2 (by simp)).symm⟩⟩
  have l1:=ru.length;have l2:=rv.length;refine YZ Z (k1.dr hh (ha i1 (by simp)) us.toArray) (k2.dr hh (hb i2 (by simp)) vs.toArray) g1 g2 g3 (show _/\_ from⟨g4,pu⟩) (show _/\_ from⟨g5,pv⟩) (by simp; omega) fun h' tk kk=>⟨rfl,I.Fx (fp:=[z,TI,TO,i1,i2]) (t':=tk) (fun c o nc e=>?_) hf⟩
  have m:∀d∈[z,TI,TO,i1,i2],c≠d:=fun d hd y=>nc (y▸hd);exact kk c o (m z (by simp)) (m TO (by simp)) (m i1 (by simp)) (m i2 (by simp)) e
 self:=fun _ _ _ _ _ st h=>JT st.z h
section
variable{X:Cx}
def Q7(K:Frag)(ta:TA):TI:=fun σ H R=>ta σ H fun vs H1=>∃a b,vs=[.ref a,.ref b]/\(∃xs,cB K H1 a xs)/\(∃ys,cB K H1 b ys)/\R (afp K a b) H1
theorem wO{K:Frag}{e e':Expr}{elts:List Expr}{x1}{tp p pos:Pos}{ta:TA}(hK:X.K=K)(hm:X.mg "zip" = none)(ha:PA X [e,e'] ta)(hg:Gl X "zip" := by rfl)(h1:cF e=true:=by rfl)(h2:cF e'=true:=by rfl) :
  PI X (.Tuple elts x1 tp) (.Call (.Name "zip" p) [e,e'] [] pos) (Q7 K ta):=by
 subst hK;symm;intro R I h;refine qY (ir I hg hm HF ?_ ⋯ ⋯)
 refine PyProof.Rows.callWith_type1 (dI (ha pos ae s σ H _ I h) fun us s1 ⟨vs,H1,I1,r1,q1⟩=>?_) (cW h1) (cU (es:=[e']) (by simp[h2]))
 obtain⟨a,b,rfl,⟨xs,hx⟩,⟨ys,hy⟩,q⟩:=q1;obtain⟨u,v,rfl,ru,rv⟩:=r1.two;cases ru;cases rv;obtain⟨us,_,pu,_⟩:=I1.tuple hx;obtain⟨ws,_,pw,_⟩:=I1.tuple hy;refine Ua (show s1.heap.IsTuple a us.toArray from pu) (show s1.heap.IsTuple b ws.toArray from pw) fun h' hz hp ho h1 h2 kk=>?_;have I2:Inv X ae σ H1 { s1 with heap:=h' }:=I1.kept (t':=s1.toks) kk
 have fr:∀n,H1 (s1.heap.objs.size+n)=none:=fun n=>I1.hok.fresh (Jw _ _);have fk:∀n,g8 X ae H1 (s1.heap.objs.size+n):=fun n=>I1.rF (Jw _ _) (fr n);have ne:∀i j:Nat,i≠j->s1.heap.objs.size+i≠s1.heap.objs.size+j:=fun i j n e=>n (Qh e);refine JT hz ⟨s1.heap.objs.size+4,_,_,afp X.K a b,H1,rfl,I2,pW kT kT a b (s1.heap.objs.size+4) (s1.heap.objs.size+2) (s1.heap.objs.size+3) s1.heap.objs.size (s1.heap.objs.size+1) (ne _ _ ⋯) (ne _ _ ⋯) (ne _ _ ⋯) (ne 0 _ ⋯) (ne _ _ ⋯) (ne _ 0 ⋯) (ne _ _ ⋯) (ne 0 _ ⋯) (ne _ 0 ⋯) (ne _ _ ⋯),⟨hz,hp,⟨_,_,ho⟩,h1,h2⟩,fun c hc=>?_,q⟩
 simp only[bT,jW,or_false] at hc;rcases hc with rfl | rfl | rfl | rfl | rfl
 ·exact fk 4
 ·exact fk 2
 ·exact fk 3
 ·exact fk 0
 ·exact fk 1
end
abbrev two(elt t1 i1 t2 i2:Expr)(sc:Scope)(pos:Pos):Expr:=.ListComp elt [⟨t1,i1,[],0⟩,⟨t2,i2,[],0⟩] sc pos
theorem Zg(elt t1 i1 t2 i2:Expr)(sc:Scope)(pos:Pos)(it acc:Value)(env:Env) :
  compTurn (two elt t1 i1 t2 i2 sc pos) 1 it acc env=(standAt i2.pos >>= fun _=>pyNext it >>= fun r=>match r with
   | none=>pure (.done .next)
   | some v=>letOwnedTupleGo t2 it v >>= fun _=>assign t2 env v >>= fun _=>(eval elt env >>= fun x=>call (.builtin "list.append") [acc,x] >>= fun _=>pure ()) >>= fun _=>again (.compLoop (two elt t1 i1 t2 i2 sc pos) 1 it acc env)):=by rfl
theorem Vs(elt t1 i1 t2 i2:Expr)(sc:Scope)(pos:Pos)(it acc:Value)(env:Env) :
  compTurn (two elt t1 i1 t2 i2 sc pos) 0 it acc env=(do
   standAt i1.pos
   match <- pyNext it with
   | none=>pure (.done .next)
   | some v=>
    letOwnedTupleGo t1 it v
    assign t1 env v
    let mut ok:=true
    for c in([]:List Expr) do
     if ok then ok <- isTrue c env (eval c env)
    if ok then
     let x <- eval i2 env
     standAt i2.pos
     let y <- foldedSetIterable i2 env x
     let _ <- runOwn (.compStart (two elt t1 i1 t2 i2 sc pos) 1 (<- holding [y] (pyIter y)) acc env) env
    again (.compLoop (two elt t1 i1 t2 i2 sc pos) 0 it acc env)):=by rfl
section
variable{prog:Program}{w:World}{A:Around}{R:Result->Shared->Prop}{s:Shared}{elt t1 i1 t2 i2:Expr}{sc:Scope}{pos:Pos}{it acc:Value}{env:Env}
theorem aae(Iv:Nat->Shared->Prop)
  (turn:∀n s,Iv n s->wpAny (model prog w) A (pyNext it) (fun r s1=>match r with
   | none=>R (.ok .next) s1
   | some v=>wpAny (model prog w) A (letOwnedTupleGo t2 it v) (fun _ s2=>wpAny (model prog w) A (assign t2 env v) (fun _ s3=>wpAny (model prog w) A (eval elt env) (fun x s4=>
     wpAny (model prog w) A (call (.builtin "list.append") [acc,x]) (fun _ s5=>∃m,m<n/\Iv m s5) (fun _ _=>False) s4) (fun _ _=>False) s3) (fun _ _=>False) s2) (fun _ _=>False) s1) (fun _ _=>False) s)
  (n:Nat) (h:Iv n s):codeAny (model prog w) A (.compLoop (two elt t1 i1 t2 i2 sc pos) 1 it acc env) R s:=by
 refine codeAny_loop rfl Iv (fun n s hI=>?_) n h;show wpAny _ _ ((compTurn (two elt t1 i1 t2 i2 sc pos) 1 it acc env).onRaise (fun x=>do noteFrame x env; theTreesLotGoes x)) _ _ s
 refine wpAny_noted ?_;rw[Zg];refine aY (Gd (aY (iM (turn n s hI) (fun r s1 q1=>?_) fun _ _ f=>f.elim)));cases r with
 | none=>exact b_ q1
 | some v=>exact aY (iM q1 (fun _ s2 q2=>aY (iM q2 (fun _ s3 q3=>aY (aY (iM q3 (fun x s4 q4=>aY (iM q4 (fun _ s5 q5=>b_ (b_ ⟨rfl,q5⟩)) fun _ _ f=>f.elim)) fun _ _ f=>f.elim))) fun _ _ f=>f.elim)) fun _ _ f=>f.elim)
theorem Xe(hs:∀x,foldedSetIterable i2 env x=pure x)(Iv:Nat->Shared->Prop)
  (turn:∀n s,Iv n s->wpAny (model prog w) A (pyNext it) (fun r s1=>match r with
   | none=>R (.ok .next) s1
   | some v=>wpAny (model prog w) A (letOwnedTupleGo t1 it v) (fun _ s2=>wpAny (model prog w) A (assign t1 env v) (fun _ s3=>wpAny (model prog w) A (eval i2 env) (fun x s4=>wpAny (model prog w) A (pyIter x) (fun j s5=>
     codeAny (model prog w) A (.compStart (two elt t1 i1 t2 i2 sc pos) 1 j acc env) (fun r s6=>match r with | .ok _=>∃m,m<n/\Iv m s6 | .error _=>False) s5) (fun _ _=>False) s4) (fun _ _=>False) s3) (fun _ _=>False) s2) (fun _ _=>False) s1) (fun _ _=>False) s)
  (n:Nat) (h:Iv n s):codeAny (model prog w) A (.compLoop (two elt t1 i1 t2 i2 sc pos) 0 it acc env) R s:=by
 refine codeAny_loop rfl Iv (fun n s hI=>?_) n h;show wpAny _ _ ((compTurn (two elt t1 i1 t2 i2 sc pos) 0 it acc env).onRaise (fun x=>do noteFrame x env; theTreesLotGoes x)) _ _ s
 refine wpAny_noted ?_;rw[Vs];refine aY (Gd (aY (iM (turn n s hI) (fun r s1 q1=>?_) fun _ _ f=>f.elim)));cases r with
 | none=>exact b_ q1
 | some v=>
  refine aY (iM q1 (fun _ s2 q2=>aY (iM q2 (fun _ s3 q3=>?_) fun _ _ f=>f.elim)) fun _ _ f=>f.elim);refine aY (iM (wpAny_tests_nil (Q:=fun ok s'=>ok=true/\s'=s3) ⟨rfl,rfl⟩) (fun ok s' z=>?_) fun _ _ f=>f);obtain⟨rfl,rfl⟩:=z;simp only[if_true];refine aY (iM q3 (fun x s4 q4=>aY (Gd ?_)) fun _ _ f=>f.elim);refine aY (uO (hs x) (aY (nO (iM q4 (fun j s5 q5=>?_) fun _ _ f=>f.elim))));refine aY (wpAny_runOwn ?_);refine codeAny_mono q5 fun r s6 z=>?_;cases r with
  | ok f=>exact b_ ⟨rfl,z⟩
  | error e=>exact z.elim
theorem VF(h0:codeAny (model prog w) A (.compLoop (two elt t1 i1 t2 i2 sc pos) 1 it acc env) R s)
  (h:wpAny (model prog w) A (pyIter it) (fun j s'=>codeAny (model prog w) A (.compLoop (two elt t1 i1 t2 i2 sc pos) 1 j acc env) R s') (fun _ _=>False) s):codeAny (model prog w) A (.compStart (two elt t1 i1 t2 i2 sc pos) 1 it acc env) R s:=by
 refine codeAny_of_tree ?_;show wpAny _ _ ((compStart (two elt t1 i1 t2 i2 sc pos) 1 it acc env).onRaise (fun x=>do noteFrame x env; standAt theWindowsPlace)) _ _ s
 refine wpAny_notedAt ?_; unfold compStart;show wpAny _ _ (ask >>= _) _ _ s; refine aY (wpAny_askSetting (wpAny_ite ?_));split
 ·exact aY (b_ (b_ ⟨rfl,h0⟩))
 ·refine aY (qH ?_); show wpAny _ _ (standAt i2.pos >>= _) _ _ s;exact aY (Gd (aY (iM h (fun j s' z=>b_ ⟨rfl,z⟩) fun _ _ f=>f.elim)))
end
def Mf(js:List Nat)(wi wj:TI)(te:TE):TE:=fun σ H Q=>wi σ H fun J H1=>∀acc,H1 acc=none->∃W:Nat->Nat->List V->Hp->Prop,(∃m,W 0 m [] (upd H1 acc (.lst [])))/\∀i m ys H2,W i m ys H2 ->
 (J.stop i H2/\Q (.ref acc) H2)\/(J.go i H2/\∀x H3,J.xj i H2 x H3->wj (some x::none::cg js σ) H3 fun L H4=>∃U:Nat->Nat->List V->Hp->Prop,(∃k,U 0 k ys H4)/\∀j k zs H5,U j k zs H5 ->
  (L.stop j H5/\∃m',m'<m/\W (i+1) m' zs H5)\/(L.go j H5/\∀y H6,L.xj j H5 y H6->te (some x::some y::cg js σ) H6 fun v H7=>H7 acc=some (.lst zs)/\zs.length<sizeLine/\∃k',k'<k/\U (j+1) k' (zs++[v]) (upd H7 acc (.lst (zs++[v])))))
theorem Om{X:Cx}{elt i1 i2:Expr}{x1 x2:Str}{p1 p2 pos:Pos}{sc:Scope}{wi wj:TI}{te:TE}{N':List Str}{js:List Nat}{use:Option (Value->Sem Unit)}{Qc:Value->Shared->Prop}{ae:List (Addr×Obj)}{s:Shared}{σ:St}{H:Hp}{Q:VK}{kp:Pos}(hc:X.calm=true)(hi:PI X (.Name x1 p1) i1 wi)(S:jH X 2 N' js sc)
  (h0:N'[0]?=some x1) (h1':N'[1]?=some x2) (nd:N'.Nodup) (l1:sc.names.lookup x1=some .local) (l2:sc.names.lookup x2=some .local) (hj:∀fp s H,PI (rG X N' sc fp s H) (.Name x2 p2) i2 wj) (he:∀fp s H,PE (rG X N' sc fp s H) elt te) (hs:∀x,foldedSetIterable i1 X.env x=pure x) (hs2:∀fp s H x,foldedSetIterable i2 (rG X N' sc fp s H).env x=pure x) (I:Inv X ae σ H s) (h:Mf js wi wj te σ H Q)
  (fin:∀(acc C:Addr)(H':Hp)(s':Shared),Inv X ae σ H' s'->g8 X ae H' C->(∃m,s'.heap.Ns C m)->Q (.ref acc) H'->compPost (model X.prog X.w) X.A X.xe use Qc (.ref acc) C (.ok .next) s') :
  wpAny (model X.prog X.w) X.A (comprehension (two elt (.Name x1 p1) i1 (.Name x2 p2) i2 sc pos) sc X.env kp (newList []) false (eval i1 X.env) use) Qc X.xe s:=by
 refine wpAny_comprehension_free (use:=use) rfl hs S.clos S.kind S.names ?_;refine dI (hi ae s σ H _ I h) fun v s1 q1=>dI q1 fun itv s2 q2=>?_;obtain⟨it,fp,tn,J,H2,e,I2,T,st2,f2,q3⟩:=q2;subst e;refine vY ?_;obtain⟨W,⟨m0,w0⟩,turn⟩:=q3 s2.heap.objs.size I2.fresh;have I3:=I2.acE (ys:=[]) (its:=[]) (t':=s2.toks) .nil (fG _)
 have lt2:∀b∈fp,b<s2.heap.objs.size:=fun b hb=>by
  obtain⟨o,ho,_⟩:=T.obj 0 _ st2 b hb;exact cI ho
 generalize e3:({ s2 with heap:=s2.heap.push { cls:=.type "list",data:=.seq ([]:List Value).toArray },toks:=s2.toks }:Shared)=s3 at I3
 have e3':({ s2 with heap:=s2.heap.push { cls:=.type "list",dict:=none,data:=.seq ([]:List Value).toArray } }:Shared)=s3:=e3
 have sz3:s3.heap.objs.size=s2.heap.objs.size+1:=by rw[<- e3]; exact iQ ..
 have st3:tn 0 s3.heap:=T.keep 0 _ _ st2 fun b hb o ho=>by rw[<- e3]; exact dJ _ ho
 have lt3:∀b∈fp,b<s3.heap.objs.size:=fun b hb=>by rw[sz3]; exact Dl (lt2 b hb)
 have f3:∀b∈fp,g8 X ae (upd H2 s2.heap.objs.size (.lst [])) b:=fun b hb=>⟨by rw[aP (gB (lt2 b hb))]; exact(f2 b hb).1,(f2 b hb).2⟩
 generalize hH3:upd H2 s2.heap.objs.size (.lst [])=H3 at I3 f3 w0;refine wpAny_newFunctionEnv S.jg (by intro y hy; simp at hy) (fun h1 hns hsb=>?_) S.kind
 have hk:∀b o,s3.heap.get? b=some o->h1.get? b=some o:=fun b o q=>hsb.extBut b o (gB (cI q)) (dJ _ q);have hns':h1.Ns s3.heap.objs.size fun _=>none:=hns;have I4:Inv (rG X N' sc fp s3 H3) [] (none::none::cg js σ) H3 { s3 with heap:=h1,toks:=s3.toks+([]:List (Str×Value)).length }:=T3 (nt:=2) I3 f3 lt3 S hns' hk
 have st4:tn 0 h1:=T.keep 0 _ _ st3 fun b hb o ho=>hk b o ho;have stat:∀{H':Hp},(∀b∈fp,H' b=none)->∀b∈fp,g8 (rG X N' sc fp s3 H3) [] H' b:=fun hn b hb=>⟨hn b hb,gB (lt3 b hb),I4.ok.Og b hb,.inl hb,(I4.ok.exf b hb).2,fun p hp=>absurd (show p∈([]:List (Addr×Obj)) from hp) (by simp)⟩
 have out:∀{σ':St}{H':Hp}{s':Shared},Inv (rG X N' sc fp s3 H3) [] σ' H' s'->Q (.ref s2.heap.objs.size) H'->compPost (model X.prog X.w) X.A X.xe use Qc (.ref s2.heap.objs.size) s3.heap.objs.size (.ok .next) s':=by
  intro σ' H' s' I' q';obtain⟨m,hn,_⟩:=id I'.loc;have I5:Inv X ae σ H' s':=I3.call' I'.os I'.base I'.hok I'.bare fun b hb=>⟨(f3 b hb).2.2.2.1,(f3 b hb).2.1,(f3 b hb).2.2.2.2.1,(f3 b hb).2.2.2.2.2⟩;exact fin _ _ H' s' I5 (I3.rF (dM _) I'.free) ⟨m,hn⟩ q'
 have loop:∀s4:Shared,s4={ s3 with heap:=h1,toks:=s3.toks+([]:List (Str×Value)).length }->codeAny (model X.prog X.w) X.A (.compLoop (two elt (.Name x1 p1) i1 (.Name x2 p2) i2 sc pos) 0 (.ref it) (.ref s2.heap.objs.size) (compEnvC sc (rJ sc X.env) s3.heap.objs.size X.env))
   (compPost (model X.prog X.w) X.A X.xe use Qc (.ref s2.heap.objs.size) s3.heap.objs.size) s4:=by
  rintro s4 rfl;refine Xe (hs2 fp s3 H3) (fun n s'=>∃i ys H',Inv (rG X N' sc fp s3 H3) [] (none::none::cg js σ) H' s'/\tn i s'.heap/\(∀b∈fp,H' b=none)/\W i n ys H') ?_ m0 ⟨0,[],H3,I4,st4,fun b hb=>(f3 b hb).1,w0⟩;rintro n s5 ⟨i,ys,H5,I5,Zm,vf,w5⟩;rcases turn i n ys H5 w5 with⟨stop,qn⟩ | ⟨go,step⟩
  ·refine dI (T.done (rG X N' sc fp s3 H3) rfl rfl rfl hc i [] s5 _ H5 (fun _ _=>False) I5 (stat vf) Zm stop) fun r s6 qx=>?_;obtain⟨hr,I6⟩:=qx;subst hr;exact out I6 qn
  ·refine dI (T.item (rG X N' sc fp s3 H3) rfl rfl rfl hc i [] s5 _ H5 (fun _ _=>False) I5 (stat vf) Zm go) fun r s6 qx=>?_;obtain⟨u,hr,q6⟩:=qx;subst hr;refine dI q6 fun _ s7 qx=>?_;obtain⟨y,H7,I7,r7,y7,Zk,fr7⟩:=qx;have I7':=I7.pinned (stat fr7) (T.obj _ _ Zk);have g1:PG (rG X N' sc fp s3 H3) (.Name x1 p1) (fV 0):=aC nd h0 (.inl (h_ l1)) (.inr (h_ l1));have g2:PG (rG X N' sc fp s3 H3) (.Name x2 p2) (fV 1):=aC nd h1' (.inl (h_ l2)) (.inr (h_ l2));refine dI (g1 _ s7 _ H7 y u (fun σ' H'=>σ'=some y::none::cg js σ/\H'=H7) I7' r7 ⟨rfl,rfl⟩) fun _ s8 qx=>?_;obtain⟨σ8,H8,I8,e8,e8'⟩:=qx;subst e8 e8';refine dI (hj fp s3 H3 _ s8 _ _ _ I8 (step y _ y7)) fun v9 s9 q9=>dI q9 fun itv uM q10=>?_;obtain⟨it2,fp2,tn2,L,Am,e10,I10,T2,aej,YM,U,⟨k0,u0⟩,ad4⟩:=q10;subst e10;have VD:∀{H':Hp},(∀b∈fp2,H' b=none)->∀b∈fp2,g8 (rG X N' sc fp s3 H3) _ H' b:=fun hn b hb=>⟨hn b hb,(YM b hb).2⟩;have abm:codeAny (model X.prog X.w) X.A (.compLoop (two elt (.Name x1 p1) i1 (.Name x2 p2) i2 sc pos) 1 (.ref it2) (.ref s2.heap.objs.size) (compEnvC sc (rJ sc X.env) s3.heap.objs.size X.env))
     (fun r s6=>match r with | .ok _=>∃m,m<n/\∃i ys H',Inv (rG X N' sc fp s3 H3) [] (none::none::cg js σ) H' s6/\tn i s6.heap/\(∀b∈fp,H' b=none)/\W i m ys H' | .error _=>False) uM:=by
    refine aae (fun k s'=>∃j zs H',Inv (rG X N' sc fp s3 H3) _ (some y::none::cg js σ) H' s'/\tn2 j s'.heap/\(∀b∈fp2,H' b=none)/\U j k zs H') ?_ k0 ⟨0,ys,Am,I10,aej,fun b hb=>(YM b hb).1,u0⟩;rintro k yh ⟨j,zs,wJ,I11,aei,ae8,w11⟩;rcases ad4 j k zs wJ w11 with⟨aee,m',hm,qn2⟩ | ⟨go2,aeg⟩
    ·refine dI (T2.done (rG X N' sc fp s3 H3) rfl rfl rfl hc j _ yh _ wJ (fun _ _=>False) I11 (VD ae8) aei aee) fun r s12 qx=>?_;obtain⟨hr,I12⟩:=qx;subst hr;refine⟨m',hm,i+1,zs,wJ,(I12.jq).weak rfl fun q v e=>?_,T.keep _ _ _ Zk fun b hb o e=>(I12.pin (b,o) (i_ _ (i_ _ (d_ hb e)))).1,fun b hb=>?_,qn2⟩
     ·cases q with
      | zero=>simp at e
      | succ q=>simpa using e
     ·obtain⟨o,e,d⟩:=T.obj _ _ Zk b hb;exact(I12.pin (b,o) (i_ _ (i_ _ (d_ hb e)))).2.1
    ·refine dI (T2.item (rG X N' sc fp s3 H3) rfl rfl rfl hc j _ yh _ wJ (fun _ _=>False) I11 (VD ae8) aei go2) fun r s12 qx=>?_;obtain⟨u2,hr,q12⟩:=qx;subst hr;refine dI q12 fun _ pY qx=>?_;obtain⟨y2,YD,I13,r13,y13,abX,ahd⟩:=qx;have aiF:=I13.pinned (VD ahd) (T2.obj _ _ abX);refine dI (g2 _ pY _ YD y2 u2 (fun σ' H'=>σ'=some y::some y2::cg js σ/\H'=YD) aiF r13 ⟨rfl,rfl⟩) fun _ V_ qx=>?_;obtain⟨σ14,H14,I14,U3,ahV⟩:=qx;subst U3 ahV;refine dI (he fp s3 H3 _ V_ _ _ _ I14 (aeg y2 _ y13)) fun z CP qx=>?_;obtain⟨vz,UG,I15,r15,ha,hz,k',hk',w15⟩:=qx;refine dI (dY (X:=rG X N' sc fp s3 H3) _ CP _ UG (.ref s2.heap.objs.size) [vz] (.ref s2.heap.objs.size) [z] (fun _ H'=>H'=upd UG s2.heap.objs.size (.lst (zs++[vz]))) I15 rfl (.cons r15 .nil) ⟨_,zs,vz,rfl,rfl,ha,hz,rfl⟩) fun _ Al qx=>?_;obtain⟨_,H16,I16,_,e16⟩:=qx;subst e16;refine⟨k',hk',j+1,zs++[vz],_,(I16.jq).weak rfl fun q v e=>?_,T2.keep _ _ _ abX fun b hb o e=>(I16.pin (b,o) (i_ _ (i_ _ (d_ hb e)))).1,fun b hb=>?_,w15⟩
     ·match q,e with
      | 0,e=>simpa using e
      | 1,e=>simp at e
      | q+2,e=>simpa using e
     ·obtain⟨o,e,d⟩:=T2.obj _ _ abX b hb;exact(I16.pin (b,o) (i_ _ (i_ _ (d_ hb e)))).2.1
   exact VF abm (T2.self X.A 0 _ _ _ aej abm)
 exact codeAny_compStart_list (loop _ rfl) (T.self X.A 0 _ _ _ st4 (loop _ rfl))
theorem bG{X:Cx}{K:Frag}{pos:Pos}{es:List Expr}{k:Nat}{t:Yw}{n:Nat}(hK:X.K=K)(hc:X.calm=true)(h:PGs X es t)
  (hn:(assignEach es X.env).length=n:=by rfl) (hst:(assignEach es X.env).findIdx? (·.1)=none:=by rfl):PG X (.Tuple es k pos) (T6 K n t):=by
 subst hK;exact acj hc h hn hst
theorem ig{X:Cx}{K:Frag}{tg l:Expr}{tl:TE}(hK:X.K=K)(hl:PE X l tl):PI X tg l (zx K tl):=by
 subst hK;exact ach hl
theorem iT{X:Cx}{K:Frag}{tg l:Expr}{tl:TE}(hK:X.K=K)(hl:PE X l tl):PI X tg l (zy K tl):=by
 subst hK;exact ZR hl
theorem Wz{X:Cx}{elt i1 i2:Expr}{x1 x2:Str}{p1 p2 pos:Pos}{sc:Scope}{wi wj:TI}{te:TE}{N':List Str}{js:List Nat}(hc:X.calm=true)(hi:PI X (.Name x1 p1) i1 wi)(S:jH X 2 N' js sc)
  (h0:N'[0]?=some x1) (h1':N'[1]?=some x2) (nd:N'.Nodup) (l1:sc.names.lookup x1=some .local) (l2:sc.names.lookup x2=some .local) (hj:∀fp s H,PI (rG X N' sc fp s H) (.Name x2 p2) i2 wj) (he:∀fp s H,PE (rG X N' sc fp s H) elt te) (hs:∀x,foldedSetIterable i1 X.env x=pure x:=by intro _; rfl) (hs2:∀fp s H x,foldedSetIterable i2 (rG X N' sc fp s H).env x=pure x:=by intro _ _ _ _; rfl) :
  PE X (two elt (.Name x1 p1) i1 (.Name x2 p2) i2 sc pos) (Mf js wi wj te):=by
 symm;intro Q I h;rw[eval_ListComp];refine Om (use:=none) hc hi S h0 h1' nd l1 l2 hj he hs hs2 I h fun acc C H' s' I5 fc ⟨m,hn⟩ q=>?_;refine⟨m,hn,fun h' sb=>?_⟩;exact⟨.ref acc,H',I5.turned (it:=C) (t':=s'.toks) (fun b o hb q=>sb.extBut b o hb q) fc.1 fc.2.1 fc.2.2.2.1 fc.2.2.2.2.1 fc.2.2.2.2.2,rfl,q⟩
theorem rH{K:Frag}{js:List Nat}{J:It}{te:TE}{σ:St}{H:Hp}{Q:VK}{acc:Addr}{es:List PyData}(xv yv:Nat->V)(hz:es.length<=sizeLine)(hL:bJ es=true)(hacc:H acc=none)
  (go:∀i H',i<es.length->aF H H'->J.go i H') (yl:∀i H' v dH,i<es.length->aF H H'->J.xj i H' v dH->∃p,H' p=none/\v=.ref p/\dH=upd H' p (.tup [xv i,yv i])) (st:∀H',aF H H'->J.stop es.length H')
  (val:∀(i:Nat) e H',es[i]?=some e->aF H H'->∀R:VK,(∀v dH,aF H' dH->At dH e v->R v dH)->te (some (xv i)::some (yv i)::cg js σ) H' R)
  (fin:∀ys H',aF H H'->H' acc=some (.lst ys)->ak (hid acc H') es ys->Q (.ref acc) H') :
  ∃W:Nat->Nat->List V->Hp->Prop,(∃m,W 0 m [] (upd H acc (.lst [])))/\∀i m ys H2,W i m ys H2 ->
   (J.stop i H2/\Q (.ref acc) H2)\/(J.go i H2/\∀x H3,J.xj i H2 x H3->T6 K 2 (mC (fV 0) (mC (fV 1) Hh)) x (List.replicate 2 none++cg js σ) H3 fun σ' H'=>(σ'.drop 2=cg js σ/\σ'.length=(List.replicate 2 (none:Option V)++cg js σ).length)/\qL σ' H' fun b dH=>
    if b=true then te σ' dH fun y H4=>H4 acc=some (.lst ys)/\ys.length<sizeLine/\∃m',m'<m/\W (i+1) m' (ys++[y]) (upd H4 acc (.lst (ys++[y]))) else ∃m',m'<m/\W (i+1) m' ys dH):=by
 refine⟨fun i m ys H2=>m=es.length-i/\i<=es.length/\ak (hid acc H2) (es.take i) ys/\aF H H2/\H2 acc=some (.lst ys),⟨_,rfl,fG _,ak.nil,aM hacc _,aD⟩,?_⟩;rintro i m ys H2 ⟨rfl,hi,hA,sm,hy⟩;by_cases hlt:i<es.length
 ·refine .inr ⟨go i H2 hlt sm,fun x H3 y=>?_⟩;obtain⟨p,fp,rfl,rfl⟩:=yl i H2 x H3 hlt sm y;refine⟨p,_,rfl,cB.of aD,rfl,(show(_=_/\_=_)/\qL _ _ _ from⟨⟨rfl,by simp⟩,?_⟩)⟩
  unfold qL;simp only[if_true];have e1:es[i]?=some es[i]:=gm hlt;have s3:aF H2 (upd H2 p (.tup [xv i,yv i])):=aM fp _;refine val i _ _ e1 (sm.trans s3) _ fun v H4 s4 a4=>⟨s4 _ _ (s3 _ _ hy),?_,es.length-(i+1),∅,rfl,hlt,?_,?_,aD⟩
  ·rw[hA.length,jV]; omega
  ·rw[iV,Ge,e1];exact ak.append (hA.mono (aF.hid (s3.trans s4))) (ak.cons (At.pG (s4 _ _ (s3 _ _ hy)) _ _ (j4 hL e1) a4) ak.nil)
  ·refine fun b o q=>?_;have nb:b≠acc:=bV q hacc;rw[aP nb];exact s4 _ _ (s3 _ _ (sm _ _ q))
 ·have e:i=es.length:=by omega
  subst e;rw[mY] at hA;exact .inl ⟨st _ sm,fin _ _ sm hy hA⟩
theorem Ea{K:Frag}{js:List Nat}{a b:Addr}{xs ys:List V}{es:List PyData}{ta:TA}{te:TE}{σ:St}{H:Hp}{Q:VK}(hl:∀R:List V->Hp->Prop,R [.ref a,.ref b] H->ta σ H R)(ha:H a=some (.tup xs))(hb:H b=some (.tup ys))(n1:xs.length=es.length)(n2:ys.length=es.length)(hz:es.length<=sizeLine)(hL:bJ es=true)
  (val:∀(i:Nat) x y e H',xs[i]?=some x->ys[i]?=some y->es[i]?=some e->aF H H'->∀R:VK,(∀v dH,aF H' dH->At dH e v->R v dH)->te (some x::some y::cg js σ) H' R)
  (fin:∀acc zs H',aF H H'->H acc=none->H' acc=some (.lst zs)->ak (hid acc H') es zs->Q (.ref acc) H'):fM 2 js (Q7 K ta) (T6 K 2 (mC (fV 0) (mC (fV 1) Hh))) qL te σ H Q:=by
 refine hl _ ⟨a,b,rfl,⟨xs,cB.of ha⟩,⟨ys,cB.of hb⟩,fun acc hacc=>?_⟩;have gx:∀i,i<es.length->xs[i]?=some (xs.getD i .non):=fun i hi=>by rw[fD,gm ∅]; rfl
 have gy:∀i,i<es.length->ys[i]?=some (ys.getD i .non):=fun i hi=>by rw[fD,gm ∅]; rfl
 refine rH (es:=es) (fun i=>xs.getD i .non) (fun i=>ys.getD i .non) hz hL hacc (fun i H' hi s=>⟨xs,ys,_,_,cB.of (s _ _ ha),cB.of (s _ _ hb),gx i hi,gy i hi⟩) (fun i H' v dH hi s y=>?_) (fun H' s=>⟨xs,ys,cB.of (s _ _ ha),cB.of (s _ _ hb),.inl n1.symm⟩) (fun i e H' he s R hR=>?_) fun zs H' s h1 h2=>fin acc zs H' s hacc h1 h2
 ·obtain⟨p,x,y,fp,e1,e2,h1,h2⟩:=y;have q1:=h1 xs (cB.of (s _ _ ha));have q2:=h2 ys (cB.of (s _ _ hb));rw[gx i hi] at q1;rw[gy i hi] at q2;cases q1;cases q2;exact⟨p,fp,e1,e2⟩
 ·have hi:i<es.length:=by
   by_cases z:i<es.length
   ·exact z
   ·rw[Mu ∅] at he; cases he
  exact val i _ _ e H' (gx i hi) (gy i hi) he s R hR
theorem Ol{K:Frag}{js:List Nat}{a:Addr}{ys:List V}{es:List PyData}{ta:TA}{te:TE}{σ:St}{H:Hp}{Q:VK}(hl:∀R:List V->Hp->Prop,R [.ref a] H->ta σ H R)(hb:H a=some (.tup ys))(n2:ys.length=es.length)(hz:es.length<=sizeLine)(hL:bJ es=true)
  (val:∀(i:Nat) y e H',ys[i]?=some y->es[i]?=some e->aF H H'->∀R:VK,(∀v dH,aF H' dH->At dH e v->R v dH)->te (some (.int (i:Nat))::some y::cg js σ) H' R)
  (fin:∀acc zs H',aF H H'->H acc=none->H' acc=some (.lst zs)->ak (hid acc H') es zs->Q (.ref acc) H'):fM 2 js (Nz K ta) (T6 K 2 (mC (fV 0) (mC (fV 1) Hh))) qL te σ H Q:=by
 refine hl _ ⟨a,rfl,⟨ys,cB.of hb⟩,fun acc hacc=>?_⟩;have gy:∀i,i<es.length->ys[i]?=some (ys.getD i .non):=fun i hi=>by rw[fD,gm ∅]; rfl
 refine rH (es:=es) (fun i=>.int (i:Nat)) (fun i=>ys.getD i .non) hz hL hacc (fun i H' hi s=>⟨ys,_,cB.of (s _ _ hb),gy i hi⟩) (fun i H' v dH hi s y=>?_) (fun H' s=>⟨ys,cB.of (s _ _ hb),n2⟩) (fun i e H' he s R hR=>?_) fun zs H' s h1 h2=>fin acc zs H' s hacc h1 h2
 ·obtain⟨p,y,fp,e1,e2,h2⟩:=y;have q2:=h2 ys (cB.of (s _ _ hb));rw[gy i hi] at q2;cases q2;exact⟨p,fp,e1,e2⟩
 ·have hi:i<es.length:=by
   by_cases z:i<es.length
   ·exact z
   ·rw[Mu ∅] at he; cases he
  exact val i _ e H' (gy i hi) he s R hR
theorem Yi{K:Frag}{js:List Nat}{xs:List V}{es:List PyData}{te:TE}{σ:St}{H:Hp}{Q:VK}(hn:es.length=xs.length)(hz:es.length<=sizeLine)(hL:bJ es=true)
  (step:∀(i:Nat) x e H',xs[i]?=some x->es[i]?=some e->aF H H'->∀R:VK,(∀v dH,aF H' dH->At dH e v->R v dH)->te (some x::cg js σ) H' R)
  (fin:∀acc ys H',aF H H'->H acc=none->H' acc=some (.lst ys)->ak (hid acc H') es ys->Q (.ref acc) H'):jr js (zx K (abT K xs)) te σ H Q:=by
 intro a _ ht;refine⟨a,rfl,⟨xs,ht H⟩,fun acc hacc=>?_⟩;refine⟨fun i m ys H2=>m=es.length-i/\i<=es.length/\ak (hid acc H2) (es.take i) ys/\aF H H2/\H2 acc=some (.lst ys),⟨_,rfl,fG _,ak.nil,aM hacc _,aD⟩,?_⟩;rintro i m ys H2 ⟨rfl,hi,hA,sm,hy⟩;by_cases hlt:i<es.length
 ·refine .inr ⟨⟨xs,xs[i]'∅,ht _,gm ∅⟩,fun x H3 y=>?_⟩
  obtain⟨e,y⟩:=y;subst e;have e1:es[i]?=some es[i]:=gm hlt;refine step i x _ _ (y xs (ht _)) e1 sm _ fun v H4 s4 a4=>⟨s4 _ _ hy,?_,es.length-(i+1),∅,rfl,hlt,?_,?_,aD⟩
  ·rw[hA.length,jV]; omega
  ·rw[iV,Ge,e1];exact ak.append (hA.mono (aF.hid s4)) (ak.cons (At.pG (s4 _ _ hy) _ _ (j4 hL e1) a4) ak.nil)
  ·refine fun b o q=>?_;have nb:b≠acc:=bV q hacc;rw[aP nb];exact s4 _ _ (sm _ _ q)
 ·have e:i=es.length:=by omega
  subst e;rw[mY] at hA;exact .inl ⟨⟨xs,ht _,∅⟩,fin _ _ _ sm hacc hy hA⟩
theorem Yj{K:Frag}{js:List Nat}{a:Addr}{xs:List V}{tl tm te:TE}{σ:St}{H:Hp}{Q:VK}(zO:List (List PyData))(hl:∀R:VK,R (.ref a) H->tl σ H R)(ha:H a=some (.tup xs))(hA:ak H (zO.map PyData.tuple) xs)(hn:zO.flatten.length<=1000)
  (hm:∀x H' (R:VK),R x H'->tm (some x::none::cg js σ) H' R) (he:∀x y H' (R:VK),R y H'->te (some x::some y::cg js σ) H' R)
  (fin:∀acc ys H',aF H H'->H acc=none->H' acc=some (.lst ys)->ak H zO.flatten ys->Q (.ref acc) H'):Mf js (zx K tl) (zx K tm) te σ H Q:=by
 refine hl _ ⟨a,rfl,⟨xs,cB.of ha⟩,fun acc hacc=>?_⟩;have hlen:xs.length=zO.length:=by rw[hA.length,bW]
 have tl':∀i,(zO.take i).flatten.length<=zO.flatten.length:=fun i=>by
  have:zO.flatten=(zO.take i).flatten++(zO.drop i).flatten:=by rw[<- List.flatten_append,Qj]
  rw[this,c7]; omega
 refine⟨fun i m ys H2=>m=zO.length-i/\i<=zO.length/\ak H (zO.take i).flatten ys/\aF H H2/\H2 acc=some (.lst ys),⟨_,rfl,fG _,ak.nil,aM hacc _,aD⟩,?_⟩;rintro i m ys H2 ⟨rfl,hi,hA2,sm,hy⟩;have ht:cB K H2 a xs:=cB.of (sm _ _ ha);by_cases hlt:i<zO.length
 ·refine .inr ⟨⟨xs,xs[i]'∅,ht,gm ∅⟩,fun x H3 y=>?_⟩
  obtain⟨e,y⟩:=y;subst e;have hx:=y xs ht;have e1:zO[i]?=some zO[i]:=gm hlt;obtain⟨x',hx',ax⟩:=hA.getD (show(zO.map PyData.tuple)[i]?=some (.tuple zO[i]) by rw[g_,e1]; rfl)
  rw[hx] at hx';cases hx';generalize hds:zO[i]=ds at *;unfold At at ax;obtain⟨b,zs,rfl,hb,aB⟩:=ax;have ef:(zO.take (i+1)).flatten=(zO.take i).flatten++ds:=by rw[Ge,e1]; simp
  refine hm _ _ _ ⟨b,rfl,⟨zs,cB.of (sm _ _ hb)⟩,?_⟩;refine⟨fun j k ws H5=>k=ds.length-j/\j<=ds.length/\ak H ((zO.take i).flatten++ds.take j) ws/\aF H H5/\H5 acc=some (.lst ws),⟨_,rfl,fG _,by simpa using hA2,sm,hy⟩,?_⟩
  rintro j k ws H5 ⟨rfl,hj,hA5,sm5,hy5⟩;have ht5:cB K H5 b zs:=cB.of (sm5 _ _ hb);have hzl:=aB.length;by_cases hjt:j<ds.length
  ·refine .inr ⟨⟨zs,zs[j]'∅,ht5,gm ∅⟩,fun u H6 yu=>?_⟩
   obtain⟨e,yu⟩:=yu;subst e;have hu:=yu zs ht5;obtain⟨d,hd,au⟩:=aB.get hu;refine he _ _ _ _ ⟨hy5,bC ?_,ds.length-(j+1),∅,rfl,hjt,?_,sm5.kY hacc,aD⟩
   ·have:=hA5.length;rw[c7,jV] at this;have t2:=tl' (i+1);rw[ef,c7] at t2;omega
   ·rw[Ge,hd,<- Ax];exact hA5.append (ak.cons au ak.nil)
  ·have ej:j=ds.length:=by omega
   subst ej;rw[mY] at hA5;refine .inl ⟨⟨zs,ht5,∅⟩,zO.length-(i+1),∅,rfl,hlt,by rw[ef]; exact hA5,sm5,hy5⟩
 ·have e:i=zO.length:=by omega
  subst e;rw[mY] at hA2;exact .inl ⟨⟨xs,ht,∅⟩,fin _ _ _ sm hacc hy hA2⟩
section
variable{X:Cx}{ae:List (Addr×Obj)}{σ:St}{H:Hp}{s:Shared}{A:Around}{E:Value->Shared->Prop}{Q:Value->Shared->Prop}{b:Bool}
theorem Nv{x:V}{u t:Value}{tp:Addr}{its:List Value}(I:Inv X ae σ H s)(rx:RelV x u)(ty:qy X.K H x t)(htp:IsTup s.heap tp its.toArray)(e:kitAny X.K t its=some b)(h:∀tk,Q (.bool b) { s with toks:=tk }) :
  wpAny (model X.prog X.w) A (call (.builtin "isinstance") [u,.ref tp]) Q E s:=by
 obtain⟨o,ho,hc,n,hd⟩:=htp;obtain⟨cls,dd,data,sl⟩:=o;cases hc;cases hd;cases ty with
 | non=>cases(show u=Value.none from rx); exact kia_tup kitx_none I.qg True.intro ho e (fun z=>nomatch z) h
 | bl y=>cases(show u=Value.bool y from rx); exact kia_tup kitx_bool I.qg True.intro ho e (fun z=>nomatch z) h
 | int i=>obtain⟨t,q⟩:=(show ∃t,u=Value.int i t from rx); cases q; exact kia_tup kitx_int I.qg True.intro ho e (fun z=>nomatch z) h
 | str y=>obtain⟨t,q⟩:=(show ∃t,u=Value.str y t from rx); cases q; exact kia_tup kitx_str I.qg True.intro ho e (fun z=>nomatch z) h
 | flt y=>obtain⟨t,q⟩:=(show ∃t,u=Value.float y t from rx); cases q; exact kia_tup kitx_float I.qg True.intro ho e (fun z=>nomatch z) h
 | @lst a xs ea=>
  cases(show u=Value.ref a from rx);obtain⟨_,_,n,_,h1⟩:=(show cH X.prog X.w H s.heap a (.lst xs) from I.hok a _ ea);exact kia_tup kitx_list I.qg ⟨_,h1,rfl⟩ ho e (fun z=>nomatch z) h
 | @Ig a ob xs ea=>
  cases(show u=Value.ref a from rx);obtain⟨_,_,_,n,_,h1⟩:=(show cH X.prog X.w H s.heap a (.Ig ob (.lst xs)) from I.hok a _ ea);exact kia_tup kitx_list I.qg ⟨_,h1,rfl⟩ ho e (fun z=>nomatch z) h
 | @tup a xs ea=>
  cases(show u=Value.ref a from rx);obtain⟨_,_,_,p⟩:=(show cH X.prog X.w H s.heap a (.tup xs) from I.hok a _ ea);obtain⟨o,h1,h2,_⟩:=p;exact kia_tup kitx_tuple I.qg ⟨o,h1,h2⟩ ho e (fun z=>nomatch z) h
 | @dK a kvs ea=>
  cases(show u=Value.ref a from rx);obtain⟨_,_,vs,_,p⟩:=(show cH X.prog X.w H s.heap a (.dK kvs) from I.hok a _ ea);obtain⟨o,es,ep,h1,h2,_⟩:=p;exact kia_tup kitx_dict I.qg ⟨o,h1,h2.1⟩ ho e (fun z=>nomatch z) h
 | @dT a kvs ea=>
  cases(show u=Value.ref a from rx);obtain⟨_,_,xs,_,o,es,ep,h1,h2,_⟩:=(show cH X.prog X.w H s.heap a (.dT kvs) from I.hok a _ ea);exact kia_tup kitx_dict I.qg ⟨o,h1,h2.1⟩ ho e (fun z=>nomatch z) h
 | @ins a C dx fs ea cl ha hn htk hm=>
  cases(show u=Value.ref a from rx);obtain⟨mA,O,_⟩:=Q5 I.hok ea;obtain⟨od,J,_⟩:=O.look;exact kia_tup (kitx_own (cl.get _) cl.hd ha hn htk hm) I.qg J ho e (fun z=>nomatch z) h
end
section
variable{X:Cx}
theorem acF(K:Frag)(d:PyData):kitAny K (.type (UL d)) [.type "list",.type "tuple"]=some (qI d || isTup d):=by
 show(match kitOne K (.type (UL d)) (.type "list") with | some true=>some true | some false=>(match kitOne K (.type (UL d)) (.type "tuple") with | some true=>some true | some false=>some false | none=>none) | none=>none)=_
 rw[Ha,QT];cases qI d <;> cases isTup d <;> rfl
theorem Xr:cZ X (.builtin "isinstance") (fun vs H Q=>∃(v:V)(d:PyData)(p:Addr),vs=[v,.ref p]/\At H d v/\H p=some (.tup [.ty "list",.ty "tuple"])/\Q (.bl (qI d || isTup d)) H):=by
 symm;intro vs us Q I r h;obtain⟨v,d,p,rfl,hv,hp,q⟩:=h;obtain⟨u,t,rfl,ru,rt⟩:=r.two;cases(show t=Value.ref p from rt);obtain⟨_,its,ri,ht⟩:=(show cH X.prog X.w H s.heap p (.tup [.ty "list",.ty "tuple"]) from I.hok p _ hp)
 have e:its=[Value.type "list",Value.type "tuple"]:=by
  obtain⟨a,b,rfl,ra,rb⟩:=ri.two;cases(show a=Value.type "list" from ra);cases(show b=Value.type "tuple" from rb);rfl
 subst e;exact Nv I ru (hv.ty (K:=X.K)) ht (acF X.K d) fun tk=>⟨.bl (qI d || isTup d),H,I.tok tk,rfl,q⟩
end
theorem nu{nt:Nat}{g:TG}{js:List Nat}{J:It}{te:TE}{σ:St}{H:Hp}{Q:VK}{acc:Addr}{es:List PyData}(τ:Nat->St)(hτ:∀i,(τ i).length=nt)(hz:es.length<=sizeLine)(hL:bJ es=true)(hacc:H acc=none)
  (go:∀i H',i<es.length->aF H H'->J.go i H')
  (yl:∀i H' v dH,i<es.length->aF H H'->J.xj i H' v dH->aF H' dH/\∀R:St->Hp->Prop,R (τ i++cg js σ) dH->g v (List.replicate nt none++cg js σ) dH R) (st:∀H',aF H H'->J.stop es.length H')
  (val:∀(i:Nat) e H',es[i]?=some e->aF H H'->∀R:VK,(∀v dH,aF H' dH->At dH e v->R v dH)->te (τ i++cg js σ) H' R)
  (fin:∀ys H',aF H H'->H' acc=some (.lst ys)->ak (hid acc H') es ys->Q (.ref acc) H') :
  ∃W:Nat->Nat->List V->Hp->Prop,(∃m,W 0 m [] (upd H acc (.lst [])))/\∀i m ys H2,W i m ys H2 ->
   (J.stop i H2/\Q (.ref acc) H2)\/(J.go i H2/\∀x H3,J.xj i H2 x H3->g x (List.replicate nt none++cg js σ) H3 fun σ' H'=>(σ'.drop nt=cg js σ/\σ'.length=(List.replicate nt (none:Option V)++cg js σ).length)/\qL σ' H' fun b dH=>
    if b=true then te σ' dH fun y H4=>H4 acc=some (.lst ys)/\ys.length<sizeLine/\∃m',m'<m/\W (i+1) m' (ys++[y]) (upd H4 acc (.lst (ys++[y]))) else ∃m',m'<m/\W (i+1) m' ys dH):=by
 refine⟨fun i m ys H2=>m=es.length-i/\i<=es.length/\ak (hid acc H2) (es.take i) ys/\aF H H2/\H2 acc=some (.lst ys),⟨_,rfl,fG _,ak.nil,aM hacc _,aD⟩,?_⟩;rintro i m ys H2 ⟨rfl,hi,hA,sm,hy⟩;by_cases hlt:i<es.length
 ·refine .inr ⟨go i H2 hlt sm,fun x H3 y=>?_⟩;obtain⟨s3,gg⟩:=yl i H2 x H3 hlt sm y;refine gg _ ⟨⟨?_,?_⟩,?_⟩
  ·rw[List.drop_append_of_le_length (by rw[hτ]; exact dM _),<- hτ i,yI,JQ]
  ·rw[c7,c7,hτ,JB]
  unfold qL;simp only[if_true];have e1:es[i]?=some es[i]:=gm hlt;refine val i _ _ e1 (sm.trans s3) _ fun v H4 s4 a4=>⟨s4 _ _ (s3 _ _ hy),?_,es.length-(i+1),∅,rfl,hlt,?_,?_,aD⟩
  ·rw[hA.length,jV]; omega
  ·rw[iV,Ge,e1];exact ak.append (hA.mono (aF.hid (s3.trans s4))) (ak.cons (At.pG (s4 _ _ (s3 _ _ hy)) _ _ (j4 hL e1) a4) ak.nil)
  ·refine fun b o q=>?_;have nb:b≠acc:=bV q hacc;rw[aP nb];exact s4 _ _ (s3 _ _ (sm _ _ q))
 ·have e:i=es.length:=by omega
  subst e;rw[mY] at hA;exact .inl ⟨st _ sm,fin _ _ sm hy hA⟩
theorem Eb{K:Frag}{nt:Nat}{g:TG}{js:List Nat}{a b:Addr}{xs ys:List V}{es:List PyData}{ta:TA}{te:TE}{σ:St}{H:Hp}{Q:VK}(τ:Nat->St)(hτ:∀i,(τ i).length=nt)(hl:∀R:List V->Hp->Prop,R [.ref a,.ref b] H->ta σ H R)(ha:H a=some (.tup xs))(hb:H b=some (.tup ys))(n1:xs.length=es.length)(n2:ys.length=es.length)(hz:es.length<=sizeLine)(hL:bJ es=true)
  (tgt:∀(i:Nat) x y p H',xs[i]?=some x->ys[i]?=some y->aF H H'->H' p=some (.tup [x,y])->∀R:St->Hp->Prop,R (τ i++cg js σ) H'->g (.ref p) (List.replicate nt none++cg js σ) H' R)
  (val:∀(i:Nat) e H',es[i]?=some e->aF H H'->∀R:VK,(∀v dH,aF H' dH->At dH e v->R v dH)->te (τ i++cg js σ) H' R)
  (fin:∀acc zs H',aF H H'->H acc=none->H' acc=some (.lst zs)->ak (hid acc H') es zs->Q (.ref acc) H'):fM nt js (Q7 K ta) g qL te σ H Q:=by
 refine hl _ ⟨a,b,rfl,⟨xs,cB.of ha⟩,⟨ys,cB.of hb⟩,fun acc hacc=>?_⟩;have gx:∀i,i<es.length->xs[i]?=some (xs.getD i .non):=fun i hi=>by rw[fD,gm ∅]; rfl
 have gy:∀i,i<es.length->ys[i]?=some (ys.getD i .non):=fun i hi=>by rw[fD,gm ∅]; rfl
 refine nu (es:=es) τ hτ hz hL hacc (fun i H' hi s=>⟨xs,ys,_,_,cB.of (s _ _ ha),cB.of (s _ _ hb),gx i hi,gy i hi⟩) (fun i H' v dH hi s y=>?_) (fun H' s=>⟨xs,ys,cB.of (s _ _ ha),cB.of (s _ _ hb),.inl n1.symm⟩) val fun zs H' s h1 h2=>fin acc zs H' s hacc h1 h2;obtain⟨p,x,y,fp,rfl,rfl,h1,h2⟩:=y;have q1:=h1 xs (cB.of (s _ _ ha));have q2:=h2 ys (cB.of (s _ _ hb));exact⟨aM fp _,fun R hR=>tgt i x y p _ q1 q2 (s.trans (aM fp _)) aD R hR⟩
theorem Rh{K:Frag}{nt:Nat}{g:TG}{js:List Nat}{a:Addr}{xs:List V}{es:List PyData}{tl te:TE}{σ:St}{H:Hp}{Q:VK}(τ:Nat->St)(hτ:∀i,(τ i).length=nt)(hl:∀R:VK,R (.ref a) H->tl σ H R)(ha:H a=some (.tup xs))(n1:xs.length=es.length)(hz:es.length<=sizeLine)(hL:bJ es=true)
  (tgt:∀(i:Nat) x H',xs[i]?=some x->aF H H'->∀R:St->Hp->Prop,R (τ i++cg js σ) H'->g x (List.replicate nt none++cg js σ) H' R)
  (val:∀(i:Nat) e H',es[i]?=some e->aF H H'->∀R:VK,(∀v dH,aF H' dH->At dH e v->R v dH)->te (τ i++cg js σ) H' R)
  (fin:∀acc zs H',aF H H'->H acc=none->H' acc=some (.lst zs)->ak (hid acc H') es zs->Q (.ref acc) H'):fM nt js (zx K tl) g qL te σ H Q:=by
 refine hl _ ⟨a,rfl,⟨xs,cB.of ha⟩,fun acc hacc=>?_⟩;have ht:∀H',aF H H'->cB K H' a xs:=fun H' s=>cB.of (s _ _ ha);refine nu (es:=es) τ hτ hz hL hacc (fun i H' hi s=>⟨xs,xs[i]'∅,ht H' s,gm ∅⟩) (fun i H' v dH hi s y=>?_) (fun H' s=>⟨xs,ht H' s,∅⟩) val fun zs H' s h1 h2=>fin acc zs H' s hacc h1 h2
 obtain⟨e,y⟩:=y;subst e;exact⟨aF.refl _,fun R hR=>tgt i v _ (y xs (ht _ s)) s R hR⟩
section
variable{X:Cx}
def tNo:TS:=fun _ _ _=>False
theorem aeG{st:Stmt}:PS X st tNo:=.mk <| fun _ _ _ _ _ _ h=>h.elim
def aaW(K:Frag)(te:TE)(tp:TO):TE:=fun σ H Q=>te σ H fun x H1=>tp σ H1 fun u H2=>u=some (-1)/\∃(a:Addr)(xs:List V),x=.ref a/\d7 K H2 a xs/\∀p,H2 p=none->Q (.ref p) (upd H2 p (.lst xs.reverse))
theorem ZV{K:Frag}{e st:Expr}{te:TE}{tp:TO}{pos p2:Pos}(hK:X.K=K)(he:PE X e te)(hp:PO X (some st) tp)(hsub:∀v r,∃ops,subscripted (.Slice none none (some st) p2) false v r=operate ops (getItem v r):=by intro _ _; exact⟨_,by with_unfolding_all rfl⟩):PE X (.Subscript e (.Slice none none (some st) p2) pos) (aaW K te tp):=by
 subst hK;symm;intro Q I h;refine Subscript_ (dI (he ae s σ H _ I h) fun v s1 qx=>?_);obtain⟨x,H1,I1,r1,q1⟩:=qx;refine wpAny_Slice ?_;rw[evalPart_none];refine b_ (b_ ?_);refine dI (hp ae s1 σ H1 _ I1 q1) fun vu s3 qx=>?_;obtain⟨u,H3,I3,pu,q3⟩:=qx;obtain⟨rfl,a,xs,rfl,hx,q⟩:=q3;cases r1;have I4:Inv X ae σ H3 { s3 with heap:=s3.heap.push { cls:=.type "slice",data:=.fields #[.none,.none,vu] } }:=I3.kept (t':=s3.toks) fun b ob q=>dJ _ q
 obtain⟨its,r,ht,hz⟩:=I4.list hx;have hlen:=r.length;obtain⟨ops,ho⟩:=hsub (.ref a) (.ref s3.heap.objs.size);refine tail_any (ops:=ops) ht.isList.typeIs slot_list_getitem.lookup ?_ ho;refine wpAny_getItem_list_slice ht.isList (Heap.IsSliceOf.new ..) .none .none pu (by simp) ?_ (by rw[gq] <;> omega)
 rw[PySem.W.krv_pick];refine⟨.ref _,_,I4.laid (t':=s3.toks) (o:=.lst xs.reverse) (fun b ob q=>dJ _ q) (dM _) ?_,rfl,q _ (I4.hok.fresh (dM _))⟩;exact⟨by rw[List.length_reverse]; exact qt ∅ hz,_,0,r.reverse,dF _ rfl⟩
end
def ae9:V->Option Str
 | .int i=>if i.natAbs.log2<1920 then some (Str.ofString (toString i)) else none
 | .str z=>some z
 | _=>none
def tFv(te:TE):TE:=fun σ H Q=>te σ H fun x H1=>∃z,ae9 x=some z/\z.length<=sizeLine/\Q (.str z) H1
abbrev TJ:=Str->St->Hp->(Str->Hp->Prop)->Prop
section
variable{X:Cx}
theorem abh{e:Expr}{te:TE}{pos:Pos}(he:PE X e te):PE X (.FormattedValue e (-1) none pos) (tFv te):=by
 symm;intro Q I h;refine FormattedValue_plain (dI (he ae s σ H _ I h) fun v s1 qx=>?_);obtain⟨x,H1,I1,r1,z,hz,hl,q⟩:=qx;cases x with
 | int i=>
  obtain⟨t,rfl⟩:=r1;by_cases hd:i.natAbs.log2<1920
  ·have e:z=Str.ofString (toString i):=(Option.some.inj ((aL hd).symm.trans hz)).symm;subst e;exact formatField_int_small hd ⟨.str _,H1,I1.tok _,⟨_,rfl⟩,q⟩
  ·have e:(none:Option Str)=some z:=(bD hd).symm.trans hz;cases e
 | str y=>
  obtain⟨t,rfl⟩:=r1;cases hz;exact formatField_str (fun t' tk=>⟨.str _,H1,I1.tok _,⟨_,rfl⟩,q⟩) hl
 | _=>cases hz
structure PJ(X:Cx)(es:List Expr)(t:TJ):Prop where
 mk ::
 go:∀(acc:Str)(ae:List (Addr×Obj))(s:Shared)(σ:St)(H:Hp)(R:Str->Hp->Prop),Inv X ae σ H s->t acc σ H R ->
  Joins (model X.prog X.w) X.A X.xe (evalEach es X.env) acc (fun out s'=>∃H',Inv X ae σ H' s'/\R out H') s
def tJ0:TJ:=fun acc _ H R=>R acc H
def tJ1(te:TE)(t:TJ):TJ:=fun acc σ H R=>te σ H fun x H1=>∃y,x=.str y/\(acc++y).length<=sizeLine/\t (acc++y) σ H1 R
def tJs(t:TJ):TE:=fun σ H Q=>t Str.empty σ H fun out H'=>out.length<=sizeLine/\Q (.str out) H'
theorem Joins.mono{M:Model}{A:Around}{E:Value->Shared->Prop}:∀{ps:List (Sem Value)}{acc:Str}{Q Q':Str->Shared->Prop}{s:Shared},(∀o s',Q o s'->Q' o s')->Joins M A E ps acc Q s->Joins M A E ps acc Q' s
 | [],_,_,_,_,h,j=>h _ _ j
 | _::_,_,_,_,_,h,j=>iM j (fun _ _ ⟨y,t,e,l,r⟩=>⟨y,t,e,l,Joins.mono h r⟩) fun _ _ e=>e
theorem Wu:PJ X [] tJ0:=.mk fun acc ae s σ H R I h=>⟨H,I,h⟩
theorem pZ{e:Expr}{es:List Expr}{te:TE}{t:TJ}(he:PE X e te)(hr:PJ X es t):PJ X (e::es) (tJ1 te t):=by
 refine .mk fun acc ae s σ H R I h=>?_;show wpAny _ _ (eval e X.env) _ _ s;refine dI (he ae s σ H _ I h) fun v s1 qx=>?_;obtain⟨x,H1,I1,r1,y,ex,hl,q⟩:=qx;subst ex;obtain⟨t',rfl⟩:=r1;exact⟨y,t',rfl,hl,hr.go _ ae s1 σ H1 R I1 q⟩
theorem abg{a b:Expr}{r:List Expr}{t:TJ}{pos:Pos}(h:PJ X (a::b::r) t):PE X (.JoinedStr (a::b::r) pos) (tJs t):=by
 refine .mk fun ae s σ H Q I hw=>?_;refine wpAny_JoinedStr (Joins.mono ?_ (h.go Str.empty ae s σ H _ I hw));rintro o s' ⟨H',I',hl,q⟩;exact⟨hl,.str o,H',I'.tok _,⟨_,rfl⟩,q⟩
def agf(K:Frag)(ta:TE):TT:=fun σ H Q=>ta σ H fun x H'=>∃k,aix K x H' k/\Q k H'
end
def tx(l:List Nat):Str:=⟨l.toArray⟩
theorem uz(l:List Nat):(tx l).length=l.length:=by show l.toArray.size=_; simp
theorem ad3{z:Str}{l:List Nat}(h:z.cps.toList=l):z=tx l:=by subst h; cases z; simp[tx]
def dg(n:Int):List Nat:=(Nat.toDigits 10 n.toNat).map Char.toNat
theorem abW{n:Int}(h:0<=n):Str.ofString (toString n)=tx (dg n):=by
 obtain⟨m,rfl⟩:=Int.eq_ofNat_of_zero_le h;exact ad3 (PySem.W.KIN.signs_num m)
theorem Yc{n:Int}{k:Nat}(hk:0<k)(h1:n<10 ^ k):(dg n).length<=k:=by
 unfold dg;rw[bW];refine(Nat.length_toDigits_le_iff ⋯ hk).mpr ?_
 by_cases h0:0<=n
 ·have:(n.toNat:Int)<((10 ^ k:Nat):Int):=by rw[Int.toNat_of_nonneg h0]; simpa using h1
  exact_mod_cast this
 ·rw[show n.toNat=0 by omega]
  exact Nat.pow_pos ⋯
theorem Tq{m:Nat}(h:m<=1000000000000):m.log2<1920:=by
 by_cases e:m=0
 ·subst e; decide
 ·rw[Nat.log2_lt e];exact Nat.lt_of_le_of_lt h (lF (show 1000000000000<2 ^ 40 by decide) (R7 ⋯ ⋯))
theorem X5{n:Int}(h0:0<=n)(h1:n<=1000000000000):ae9 (.int n)=some (tx (dg n)):=by
 show(if n.natAbs.log2<1920 then some (Str.ofString (toString n)) else none)=_
 rw[aL (Tq ∅),abW h0]
abbrev UT(h:Heap)(t:Addr):Heap:=h.push { cls:=.type "list_iterator",data:=.fields #[.ref t,.int 0 0] }
abbrev zB2(h:Heap)(t1 t2:Addr):Heap:=UT (UT h t1) t2
abbrev zB3(h:Heap)(t1 t2:Addr):Heap:=(zB2 h t1 t2).push { cls:=.type "tuple",data:=.seq #[.ref h.objs.size,.ref (UT h t1).objs.size] }
abbrev zB4(h:Heap)(t1 t2:Addr):Heap:=(zB3 h t1 t2).push { cls:=.type "tuple",data:=.seq #[.none,.none] }
abbrev zB5(h:Heap)(t1 t2:Addr):Heap:=(zB4 h t1 t2).push { cls:=.type "zip",data:=.fields #[.none,.bool false,.bool false,.ref (zB2 h t1 t2).objs.size,.ref (zB3 h t1 t2).objs.size] }
theorem aab(t1 t2:Addr)(xs ys:Array Value):Meets (Builtin.«zip.__new__» ⟨[.type "zip",.ref t1,.ref t2],[]⟩) (fun _ R s=>s.heap.IsList t1 xs/\s.heap.IsList t2 ys/\R (.ok (.ret (.ref (zB4 s.heap t1 t2).objs.size))) { s with heap:=zB5 s.heap t1 t2 }):=
 .of_wp fun prog w A R s z=>by
  obtain⟨hp,g,d,tk,os⟩:=s;obtain⟨hx,hy,z⟩:=z;have sub:=sub_zip;have hX:Heap.IsList (Shared.heap ⟨hp,g,d,tk,os⟩) t1 xs:=hx;have hY:Heap.IsList (Shared.heap ⟨UT hp t1,g,d,tk,os⟩) t2 ys:=hy.push _
  wp_walk using Ay hX,Ay hY
  exact⟨_,rfl,z⟩
theorem Ub{prog:Program}{w:World}{A:Around}{E:Value->Shared->Prop}{s:Shared}{t1 t2:Addr}{xs ys:Array Value}{Q:Value->Shared->Prop}(hx:s.heap.IsList t1 xs)(hy:s.heap.IsList t2 ys)
  (q:∀h',IsZip h' (s.heap.objs.size+4) (s.heap.objs.size+2) (s.heap.objs.size+3) .none->IsPair h' (s.heap.objs.size+2) (.ref s.heap.objs.size) (.ref (s.heap.objs.size+1))->IsPair h' (s.heap.objs.size+3) .none .none ->
   h'.IsListIter s.heap.objs.size t1 0->h'.IsListIter (s.heap.objs.size+1) t2 0->(∀c o,s.heap.get? c=some o->h'.get? c=some o)->Q (.ref (s.heap.objs.size+4)) { s with heap:=h' }) :
  wpAny (model prog w) A (call (.type "zip") [.ref t1,.ref t2]) Q E s:=by
 have n1:(UT s.heap t1).objs.size=s.heap.objs.size+1:=iQ ..;have n2:(zB2 s.heap t1 t2).objs.size=s.heap.objs.size+2:=by rw[iQ,n1]
 have n3:(zB3 s.heap t1 t2).objs.size=s.heap.objs.size+3:=by rw[iQ,n2]
 have n4:(zB4 s.heap t1 t2).objs.size=s.heap.objs.size+4:=by rw[iQ,n3]
 have up:∀c o,s.heap.get? c=some o->(zB5 s.heap t1 t2).get? c=some o:=fun c o e=>dJ _ (dJ _ (dJ _ (dJ _ (dJ _ e))));have v5:(zB5 s.heap t1 t2).get? (zB4 s.heap t1 t2).objs.size=some _:=dF _ rfl;have v4:(zB5 s.heap t1 t2).get? (zB3 s.heap t1 t2).objs.size=some _:=dJ _ (dF _ rfl);have v3:(zB5 s.heap t1 t2).get? (zB2 s.heap t1 t2).objs.size=some _:=dJ _ (dJ _ (dF _ rfl));have v2:(zB5 s.heap t1 t2).get? (UT s.heap t1).objs.size=some _:=dJ _ (dJ _ (dJ _ (dF _ rfl)));have v1:(zB5 s.heap t1 t2).get? s.heap.objs.size=some _:=dJ _ (dJ _ (dJ _ (dJ _ (dF _ rfl))));refine callType_new F.called_zip ⋯ (F.typeCall_zip_2 _ _) (F.newCall_zip_2 _ _) (fun x=>F.args_object_init_3 x _ _) F.entry_zip_new (aab t1 t2 xs ys) ⟨hx,hy,?_⟩
 show _/\_;rw[n2,n3,n4] at v5;rw[n1,n2] at v3;rw[n3] at v4;rw[n1] at v2;rw[n4];exact⟨⟨_,v5,rfl⟩,q _ v5 v3 v4 ⟨_,v1,rfl,rfl⟩ ⟨_,v2,rfl,rfl⟩ up⟩
theorem abY{X:Cx}{ae:List (Addr×Obj)}{σ:St}{H:Hp}{s:Shared}{a b:Addr}{xs:List V}(I:Inv X ae σ H s)(hq:d7 X.K H a xs)(hf:g8 X ae H b):a≠b:=fun z=>by
 rcases hq with h | ⟨o,its,n,hk,_⟩
 ·rcases h with h | ⟨o,h⟩ <;> (rw[z,hf.1] at h; cases h)
 ·have e:X.base.get? a=some o:=I.ok.mod.Xn a o hk;rcases hf.2.2.2.1 with y | y
  ·exact I.ok.Kl a o e (z▸y)
  ·have l:=cI e;have m:=I.ok.U7;rw[z] at l;exact absurd (lF l (qt m y)) (uP _)
def kL:Knd:=⟨fun K=>d7 K,fun h i a n=>h.IsListIter i a n,fun h a us=>h.IsList a us,fun⟨o,g,_,d⟩=>⟨o,g,fun v q=>by rw[d] at q; cases q⟩,fun g k=>g.at k,fun I h=>(I.list h).elim fun us p=>⟨us,p.1,p.2.1.isList⟩,fun I h h'=>I.zf h h',fun I h f=>abY I h f,fun hh i a n us=>Draws.list hh i a n us⟩
abbrev afq:=Yz kL kL
section
variable{X:Cx}
def XF(K:Frag)(ta:TA):TI:=fun σ H R=>ta σ H fun vs H1=>∃a b,vs=[.ref a,.ref b]/\(∃xs,d7 K H1 a xs)/\(∃ys,d7 K H1 b ys)/\R (afq K a b) H1
theorem ZP{K:Frag}{e e':Expr}{elts:List Expr}{x1}{tp p pos:Pos}{ta:TA}(hK:X.K=K)(hm:X.mg "zip" = none)(ha:PA X [e,e'] ta)(hg:Gl X "zip" := by rfl)(h1:cF e=true:=by rfl)(h2:cF e'=true:=by rfl) :
  PI X (.Tuple elts x1 tp) (.Call (.Name "zip" p) [e,e'] [] pos) (XF K ta):=by
 subst hK;symm;intro R I h;refine qY (ir I hg hm HF ?_ ⋯ ⋯)
 refine PyProof.Rows.callWith_type1 (dI (ha pos ae s σ H _ I h) fun us s1 ⟨vs,H1,I1,r1,q1⟩=>?_) (cW h1) (cU (es:=[e']) (by simp[h2]))
 obtain⟨a,b,rfl,⟨xs,hx⟩,⟨ys,hy⟩,q⟩:=q1;obtain⟨u,v,rfl,ru,rv⟩:=r1.two;cases ru;cases rv;obtain⟨us,_,pu,_⟩:=I1.list hx;obtain⟨ws,_,pw,_⟩:=I1.list hy;refine Ub pu.isList pw.isList fun h' hz hp ho h1 h2 kk=>?_;have I2:Inv X ae σ H1 { s1 with heap:=h' }:=I1.kept (t':=s1.toks) kk
 have fr:∀n,H1 (s1.heap.objs.size+n)=none:=fun n=>I1.hok.fresh (Jw _ _);have fk:∀n,g8 X ae H1 (s1.heap.objs.size+n):=fun n=>I1.rF (Jw _ _) (fr n);have ne:∀i j:Nat,i≠j->s1.heap.objs.size+i≠s1.heap.objs.size+j:=fun i j n e=>n (Qh e);refine JT hz ⟨s1.heap.objs.size+4,_,_,afq X.K a b,H1,rfl,I2,pW kL kL a b (s1.heap.objs.size+4) (s1.heap.objs.size+2) (s1.heap.objs.size+3) s1.heap.objs.size (s1.heap.objs.size+1) (ne _ _ ⋯) (ne _ _ ⋯) (ne _ _ ⋯) (ne 0 _ ⋯) (ne _ _ ⋯) (ne _ 0 ⋯) (ne _ _ ⋯) (ne 0 _ ⋯) (ne _ 0 ⋯) (ne _ _ ⋯),⟨hz,hp,⟨_,_,ho⟩,h1,h2⟩,fun c hc=>?_,q⟩
 simp only[bT,jW,or_false] at hc;rcases hc with rfl | rfl | rfl | rfl | rfl
 ·exact fk 4
 ·exact fk 2
 ·exact fk 3
 ·exact fk 0
 ·exact fk 1
end
theorem T_{K:Frag}{js:List Nat}{a b:Addr}{xs ys:List V}{es:List PyData}{ta:TA}{te:TE}{σ:St}{H:Hp}{Q:VK}(hl:∀R:List V->Hp->Prop,R [.ref a,.ref b] H->ta σ H R)(ha:H a=some (.lst xs))(hb:H b=some (.lst ys))(n1:xs.length=es.length)(n2:ys.length=es.length)(hz:es.length<=sizeLine)(hL:bJ es=true)
  (val:∀(i:Nat) x y e H',xs[i]?=some x->ys[i]?=some y->es[i]?=some e->aF H H'->∀R:VK,(∀v dH,aF H' dH->At dH e v->R v dH)->te (some x::some y::cg js σ) H' R)
  (fin:∀acc zs H',aF H H'->H acc=none->H' acc=some (.lst zs)->ak (hid acc H') es zs->Q (.ref acc) H'):fM 2 js (XF K ta) (T6 K 2 (mC (fV 0) (mC (fV 1) Hh))) qL te σ H Q:=by
 refine hl _ ⟨a,b,rfl,⟨xs,d7.of ha⟩,⟨ys,d7.of hb⟩,fun acc hacc=>?_⟩;have gx:∀i,i<es.length->xs[i]?=some (xs.getD i .non):=fun i hi=>by rw[fD,gm ∅]; rfl
 have gy:∀i,i<es.length->ys[i]?=some (ys.getD i .non):=fun i hi=>by rw[fD,gm ∅]; rfl
 refine rH (es:=es) (fun i=>xs.getD i .non) (fun i=>ys.getD i .non) hz hL hacc (fun i H' hi s=>⟨xs,ys,_,_,d7.of (s _ _ ha),d7.of (s _ _ hb),gx i hi,gy i hi⟩) (fun i H' v dH hi s y=>?_) (fun H' s=>⟨xs,ys,d7.of (s _ _ ha),d7.of (s _ _ hb),.inl n1.symm⟩) (fun i e H' he s R hR=>?_) fun zs H' s h1 h2=>fin acc zs H' s hacc h1 h2
 ·obtain⟨p,x,y,fp,e1,e2,h1,h2⟩:=y;have q1:=h1 xs (d7.of (s _ _ ha));have q2:=h2 ys (d7.of (s _ _ hb));rw[gx i hi] at q1;rw[gy i hi] at q2;cases q1;cases q2;exact⟨p,fp,e1,e2⟩
 ·have hi:i<es.length:=by
   by_cases z:i<es.length
   ·exact z
   ·rw[Mu ∅] at he; cases he
  exact val i _ _ e H' (gx i hi) (gy i hi) he s R hR
end L2
namespace L2
open PySem
structure Pl(n:Nat)(d:PyData):Prop where
 hd:d.hasDict=false
 cl:d.canLay0=true
 dp:d.depth<=n
end L2
namespace L2
open PySem PySem.Spec PyProof.Rows
def Ia(h:Heap)(e:Addr)(cls:Value)(T:Addr):Prop:=∃oe vs,h.get? e=some oe/\(oe.cls=cls/\oe.dict=none)/\oe.data=.fields vs/\vs[1]?=some (.ref T)/\vs[2]?=some .none
def Uw(h:Heap)(T:Addr):Prop:=∃oT ts,h.get? T=some oT/\oT.data=.fields ts/\ts[3]?=some .none
structure abC(fs:List Addr)(h h':Heap)(e T:Addr)(cls:Value):Prop where
 keep:∀b o,b≠e->b∉fs->h.get? b=some o->h'.get? b=some o
 slot:∀b o,b≠e->h.get? b=some o->∃sl,h'.get? b=some { o with slots:=sl }
 fresh:h.objs.size<=T
 ex:Ia h' e cls T
 tb:Uw h' T
section
variable{M:Model}{A:Around}{E:Value->Shared->Prop}{s:Shared}
theorem zQ(o:Obj)(f:Array Value->Array Value):(Obj.mapFields f o).dict=o.dict:=by
 obtain⟨c,d,dt,sl⟩:=o;cases dt <;> rfl
theorem entryE{base:Heap}{env:Env}{outer:List Env}{L e:Addr}{oe:Obj}{vs:Array Value}{head:Value}{nx:Bool}{Q:Unit->Shared->Prop}
  (fr:A.frames=some (env::outer)) (ff:s.heap.FunFrames base (env::outer)) (fL:env.frame=some L) (he:s.heap.get? e=some oe) (hdn:oe.dict=none) (hd:oe.data=.fields vs) (hz:1<vs.size) (hc:vs[2]?=some .none)
  (q:∀h' T,abC (frs (env::outer)) s.heap h' e T oe.cls->Q () { s with heap:=h' }) :
  wpAny M A (do
   let a <- frameOf env
   let pl <- entryPlaceOf L nx
   let b <- EntryCells.newEntry head a .none (rawInt L) .none pl
   setField (.ref e) 1 b) (fun _ s'=>wpAny M A (setFlight (.ref e) none) Q E s') E s:=by
 have ne:e∉frs (env::outer):=fun hm=>by
  obtain⟨_,o,ho,hf⟩:=ff.mem hm;rw[he] at ho;cases ho;exact hf vs hd
 refine aY (wpAny_frameOf_fun fr ff fL fun h1 so=>aY (wpAny_entryPlaceOf fun pl hpl=>?_));obtain⟨sz,sk,ss⟩:=so;unfold EntryCells.newEntry newFields;refine aY (vY ?_ (hpl.sizeOk5 _ _ _ _ _));have e1:h1.get? e=some oe:=(sk e ne).trans he;have pe:=dJ (h:=h1) { cls:=.type "traceback",data:=.fields (([head,.ref L,.none,rawInt L,.none]:List Value)++(if pl.isEmpty then List.replicate 6 .none else pl)).toArray } e1
 have nT:h1.objs.size≠e:=JG (cI e1);have pT:=dF h1 (o:={ cls:=.type "traceback",data:=.fields (([head,.ref L,.none,rawInt L,.none]:List Value)++(if pl.isEmpty then List.replicate 6 .none else pl)).toArray }) rfl
 have pk:∀b o,h1.get? b=some o->(h1.push { cls:=.type "traceback",data:=.fields (([head,.ref L,.none,rawInt L,.none]:List Value)++(if pl.isEmpty then List.replicate 6 .none else pl)).toArray }).get? b=some o:=fun b o z=>dJ _ z
 refine Dd pe hd hz ?_;generalize h1.push { cls:=.type "traceback",data:=.fields (([head,.ref L,.none,rawInt L,.none]:List Value)++(if pl.isEmpty then List.replicate 6 .none else pl)).toArray }=h2 at pe pT pk ⊢
 have dx:=Obj.data_mapFields hd (·.setIfInBounds 1 (Value.ref h1.objs.size));have pe3:=A_ (Obj.mapFields (·.setIfInBounds 1 (Value.ref h1.objs.size))) pe (Obj.isFreed_of_fields dx);have pT3:=(vZ h2 (Obj.mapFields (·.setIfInBounds 1 (Value.ref h1.objs.size))) (Ne.symm nT)).trans pT;have pk3:∀b o,b≠e->h1.get? b=some o->(h2.update e (Obj.mapFields (·.setIfInBounds 1 (Value.ref h1.objs.size)))).get? b=some o:=fun b o z y=>(vZ h2 _ (Ne.symm z)).trans (pk b o y);have ce:=Obj.cls_mapFields oe (·.setIfInBounds 1 (Value.ref h1.objs.size));generalize h2.update e (Obj.mapFields (·.setIfInBounds 1 (Value.ref h1.objs.size)))=h3 at pe3 pT3 pk3 ⊢;unfold setFlight;have v1:(vs.setIfInBounds 1 (Value.ref h1.objs.size))[1]?=some (.ref h1.objs.size):=by simp[hz]
 refine aY (jT pe3 dx v1 ?_);rw[aL (show(Value.ref h1.objs.size != Value.none)=true by simp)]
 refine Dd pT3 rfl (by simp only[gq,c7,jU,JN] <;> omega) ?_
 have d4:=Obj.data_mapFields (o:={ cls:=.type "traceback",data:=.fields (([head,.ref L,.none,rawInt L,.none]:List Value)++(if pl.isEmpty then List.replicate 6 .none else pl)).toArray }) rfl (·.setIfInBounds 3 ((none:Option Addr).elim Value.none fun f=>rawInt f))
 have pT4:=A_ (Obj.mapFields (·.setIfInBounds 3 ((none:Option Addr).elim Value.none fun f=>rawInt f))) pT3 (Obj.isFreed_of_fields d4);have o4:∀b,b≠h1.objs.size->(h3.update h1.objs.size (Obj.mapFields (·.setIfInBounds 3 ((none:Option Addr).elim Value.none fun f=>rawInt f)))).get? b=h3.get? b:=fun b z=>vZ h3 _ (Ne.symm z);refine q _ h1.objs.size ⟨fun b o z y x=>?_,fun b o z x=>?_,Nat.le_of_eq sz.symm,⟨_,_,(o4 e (Ne.symm nT)).trans pe3,⟨ce,(zQ oe _).trans hdn⟩,dx,v1,by rw[Array.getElem?_setIfInBounds]; simpa using hc⟩,⟨_,_,pT4,d4,?_⟩⟩
 ·have x1:h1.get? b=some o:=(sk b y).trans x;exact(o4 b (gB (cI x1))).trans (pk3 b o z x1)
 ·obtain⟨sl,x1⟩:=ss b o x;exact⟨sl,(o4 b (gB (cI x1))).trans (pk3 b _ z x1)⟩
 ·first | (simp; done) | (rcases hpl with rfl | ⟨_,_,_,_,_,_,_,rfl⟩ <;> simp)
theorem aak{base:Heap}{env:Env}{outer:List Env}{L e:Addr}{oe:Obj}{vs:Array Value}{Q:Unit->Shared->Prop}
  (fr:A.frames=some (env::outer)) (ff:s.heap.FunFrames base (env::outer)) (fL:env.frame=some L) (he:s.heap.get? e=some oe) (hdn:oe.dict=none) (hd:oe.data=.fields vs) (h1:vs[1]?=some .none) (h2:vs[2]?=some .none)
  (q:∀h' T,abC (frs (env::outer)) s.heap h' e T oe.cls->Q () { s with heap:=h' }):wpAny M A (leaving env (.ref e)) Q E s:=by
 unfold leaving noteFrame;simp only[fL];refine aY (aY (jT he hd h1 ?_));rw[bD ⋯]
 exact entryE fr ff fL he hdn hd (Bc.mp h1).1 h2 q
structure ada(fs:List Addr)(h h':Heap)(e T0 T:Addr)(cls:Value):Prop where
 keep:∀b o,b≠e->b≠T0->b∉fs->h.get? b=some o->h'.get? b=some o
 slot:∀b o,b≠e->b≠T0->h.get? b=some o->∃sl,h'.get? b=some { o with slots:=sl }
 old:∃o,h'.get? T0=some o
 fresh:h.objs.size<=T
 ex:Ia h' e cls T
 tb:Uw h' T
theorem noteE2{base:Heap}{env:Env}{outer:List Env}{L e T0:Addr}{cls:Value}{Q:Unit->Shared->Prop}
  (fr:A.frames=some (env::outer)) (ff:s.heap.FunFrames base (env::outer)) (fL:env.frame=some L) (he:Ia s.heap e cls T0) (hT:Uw s.heap T0) (nT:T0≠e)
  (q:∀h' T,ada (frs (env::outer)) s.heap h' e T0 T cls->Q () { s with heap:=h' }) :
  wpAny M A (noteFrame (.ref e) env) (fun _ s2=>wpAny M A (setFlight (.ref e) none) Q E s2) E s:=by
 obtain⟨oe,vs,e1,⟨ec,edn⟩,ed,ev,ev2⟩:=he;obtain⟨oT,ts,t1,td,tv⟩:=hT;subst ec;unfold noteFrame;simp only[fL];refine aY (jT e1 ed ev ?_);rw[aL (show(Value.ref T0 != Value.none)=true by simp)]
 refine aY (jT t1 td tv ?_);rw[bD (show ¬((Value.none==rawInt L)=true) by simp[rawInt])]
 have tz:=(Bc.mp tv).1;refine aY (Dd t1 td tz ?_);have dT:=Obj.data_mapFields td (·.setIfInBounds 3 Value.none);have g1:=A_ (Obj.mapFields (·.setIfInBounds 3 Value.none)) t1 (Obj.isFreed_of_fields dT);have g2:∀b,b≠T0->(s.heap.update T0 (Obj.mapFields (·.setIfInBounds 3 Value.none))).get? b=s.heap.get? b:=fun b z=>vZ _ _ (Ne.symm z);have gz:(s.heap.update T0 (Obj.mapFields (·.setIfInBounds 3 Value.none))).objs.size=s.heap.objs.size:=Heap.size_after_update ..
 have f2:(s.heap.update T0 (Obj.mapFields (·.setIfInBounds 3 Value.none))).FunFrames base (env::outer):=ff.of_keeps fun b o ho hf=>⟨o,(g2 b fun z=>by
  rw[z,t1] at ho;cases ho
  exact hf ts td).trans ho,rfl⟩
 generalize s.heap.update T0 (Obj.mapFields (·.setIfInBounds 3 Value.none))=h2 at g1 g2 gz f2 ⊢;refine entryE (s:={ s with heap:=h2 }) fr f2 fL ((g2 e (Ne.symm nT)).trans e1) edn ed (Bc.mp ev).1 ev2 fun h' T l=>?_
 have nf:T0∉frs (env::outer):=fun hm=>by
  obtain⟨_,o,ho,hf⟩:=ff.mem hm;rw[t1] at ho;cases ho;exact hf ts td
 exact q h' T ⟨fun b o z y x u=>l.keep b o z x ((g2 b y).trans u),fun b o z y u=>l.slot b o z ((g2 b y).trans u),⟨_,l.keep _ _ nT nf g1⟩,by rw[<- gz]; exact l.fresh,l.ex,l.tb⟩
end
section
variable{P:Program}{w:World}{H H':Hp}{h h':Heap}{a:Addr}{o:HO}
theorem cH.there(x:cH P w H h a o):∃u,h.get? a=some u:=by
 cases o with
 | lst xs=>obtain⟨_,_,_,_,e⟩:=x; exact⟨_,e⟩
 | tup xs=>obtain⟨_,_,_,ob,e,_⟩:=x; exact⟨_,e⟩
 | dK kvs=>obtain⟨_,_,_,_,o,_,_,e,_⟩:=x; exact⟨_,e⟩
 | dT kvs=>obtain⟨_,_,_,_,o,_,_,e,_⟩:=x; exact⟨_,e⟩
 | set S n=>obtain⟨o,_,_,_,e,_⟩:=x; exact⟨_,e⟩
 | ins C dx fs=>obtain⟨_,_,_,e,_⟩:=x; exact⟨_,e⟩
 | own y=>exact x
 | xd fs=>obtain⟨_,⟨_,_,_,e,_⟩,_⟩:=x; exact⟨_,e⟩
 | Zr lo hi=>obtain⟨_,_,_,e⟩:=x; exact⟨_,e⟩
 | Ig ob u=>obtain⟨e,_⟩:=x; exact⟨_,e⟩
 | tbl ps=>exact⟨_,(show h.get? a=some _ from x)⟩
 | met f y=>exact⟨_,(show h.get? a=some _ from x)⟩
 | ext φ=>obtain⟨_,e,_⟩:=x; exact e
theorem mL.none(x:mL P w H h)(e:h.get? a=none):H a=none:=by
 cases q:H a with
 | none=>rfl
 | some u=>
  obtain⟨v,z⟩:=(x a u q).there;rw[e] at z; cases z
def xf(e:Addr)(cls:Value)(T:Addr):HO:=.ext fun h=>Ia h e cls T
def Bx(T:Addr):HO:=.ext fun h=>Uw h T
def YX(T:Addr):HO:=.ext fun h=>∃o,h.get? T=some o
theorem WW{e T:Addr}{cls:Value}(x:Ia h e cls T):cH P w H h e (xf e cls T):=by
 refine⟨x,?_,?_⟩
 ·obtain⟨oe,vs,e1,_⟩:=x; exact⟨_,e1⟩
 ·rintro h1 h2 ⟨oe,vs,e1,r⟩ k;exact⟨oe,vs,k _ e1,r⟩
theorem QF{T:Addr}(x:Uw h T):cH P w H h T (Bx T):=by
 refine⟨x,?_,?_⟩
 ·obtain⟨oe,vs,e1,_⟩:=x; exact⟨_,e1⟩
 ·rintro h1 h2 ⟨oe,vs,e1,r⟩ k;exact⟨oe,vs,k _ e1,r⟩
theorem abj{T:Addr}(x:∃o,h.get? T=some o):cH P w H h T (YX T):=by
 refine⟨x,x,?_⟩;rintro h1 h2 ⟨oe,e1⟩ k;exact⟨oe,k _ e1⟩
theorem xf.at{e T:Addr}{cls:Value}(x:cH P w H h e (xf e cls T)):Ia h e cls T:=x.1
theorem Bx.at{T:Addr}(x:cH P w H h T (Bx T)):Uw h T:=x.1
theorem mL.ext(x:mL P w H h)(S:Addr->Prop)(k:∀b u v,H b=some u->¬S b->h.get? b=some v->h'.get? b=some v)(hs:∀b,S b->H b=Option.none\/∃φ,H b=some (.ext φ))
  (o1:∀b,¬S b->H' b=H b) (o2:∀b u,S b->H' b=some u->cH P w H' h' b u):mL P w H' h':=fun b u e=>by
 by_cases z:S b
 ·exact o2 b u z e
 ·rw[o1 b z] at e;refine(x b u e).stay (fun c v q y=>?_) (fun c q=>?_) (fun c xs q=>?_)
  ·rcases q with q | q
   ·subst q; exact k c u v e z y
   ·exact k c _ v q (fun y'=>(hs c y').elim (fun n=>by rw[n] at q; cases q) fun⟨φ,n⟩=>by rw[n] at q; cases q) y
  ·rw[o1 c fun y'=>(hs c y').elim (fun n=>by rw[n] at q; cases q) fun⟨φ,n⟩=>by rw[n] at q; cases q]; exact q
  ·rw[o1 c fun y'=>(hs c y').elim (fun n=>by rw[n] at q; cases q) fun⟨φ,n⟩=>by rw[n] at q; cases q]; exact q
end
def pQ(P:Program)(w:World):Rx:=fun outer H s E e s'=>∃(a T:Addr)(cls:Value)(H':Hp),e=.ref a/\s'.os=s.os/\AllBare s'.gens/\Un (frs outer) [] H H' s.heap s'.heap/\mL P w H' s'.heap /\
 H' a=some (xf a cls T)/\H' T=some (Bx T)/\T≠a/\(s.heap.get? a=none/\s.heap.get? T=none)/\E cls none H'
section
variable{P:Program}{w:World}{K:Frag}{mg:Str->Option Value}{base:Heap}{N:List Str}{qual:Str}{scope:Scope}{f:Addr}{cd:Value}{A:Around}{outer:List Env}{s0:Shared}{H0:Hp}{E:XK}
theorem Mr{ae:List (Addr×Obj)}{σ:St}{H:Hp}{s:Shared}{h2:Heap}{e C:Addr}{us:List Value}(I:Inv (iH (pQ P w) P w K mg base N qual scope f cd A outer s0 H0 E) ae σ H s)
  (m:Heap.MadeExcOf s.heap h2 e (.ref C) us) (UW:mL P w H0 s0.heap) (q:∀H',aF H H'->E (.ref C) none H'):(iH (pQ P w) P w K mg base N qual scope f cd A outer s0 H0 E).xe (.ref e) { s with heap:=h2 }:=by
 obtain⟨t,he,_,_⟩:=m.there;have ff:h2.FunFrames base (envOfC qual scope s0.heap.objs.size f cd::outer):=(I.stack:s.heap.FunFrames base (envOfC qual scope s0.heap.objs.size f cd::outer)).of_keeps fun b o ho _=>⟨o,m.keeps b o ho,rfl⟩;have fr:(A.deeper (envOfC qual scope s0.heap.objs.size f cd)).frames=some (envOfC qual scope s0.heap.objs.size f cd::outer):=I.ok.frames;refine aak (s:={ s with heap:=h2 }) fr ff rfl he rfl rfl rfl rfl fun h3 T l=>?_
 have ne:H e=none:=I.hok.none m.new
 have nT:H T=none:=I.hok.none (by
  cases z:s.heap.get? T with
  | none=>rfl
  | some o=>exact absurd (cI (m.keeps _ _ z)) (Nat.not_lt.mpr l.fresh))
 have Te:T≠e:=fun z=>by
  obtain⟨oe,vs,e1,e2,e3,e4⟩:=l.ex;obtain⟨oT,ts,t1,t2,t3⟩:=l.tb;have:=cI he;have:=l.fresh;have:e<h2.objs.size:=cI he;subst z;exact absurd this (Nat.not_lt.mpr l.fresh)
 have iL:∀b o,s0.heap.get? b=some o->b≠s0.heap.objs.size:=fun b o z=>gB (cI z);have ib:Un (frs outer) [] H0 H s0.heap s.heap:=I.base;have u1:∀b,b≠T->b≠e->upd (upd H e (xf e (.ref C) T)) T (Bx T) b=H b:=fun b y z=>by rw[aP y,aP z]
 have nb:∀b o,s.heap.get? b=some o->b≠e:=fun b o z y=>by rw[y,m.new] at z; cases z
 have nbT:∀b o,s.heap.get? b=some o->b≠T:=fun b o z y=>by
  have a1:=cI (m.keeps b o z);have a2:h2.objs.size<=T:=l.fresh;subst y;exact Nat.not_lt.mpr a2 a1
 have nf:∀b,b∉frs outer->b≠s0.heap.objs.size->b∉frs (envOfC qual scope s0.heap.objs.size f cd::outer):=fun b y z hm=>by
  rcases bT.mp (show b∈s0.heap.objs.size::frs outer from hm) with x | x
  ·exact z x
  ·exact y x
 have hu:∀b u,H b=some u->b≠e/\b≠T:=fun b u z=>⟨fun y=>(by rw[y,ne] at z; cases z),fun y=>(by rw[y,nT] at z; cases z)⟩
 refine⟨e,T,.ref C,upd (upd H e (xf e (.ref C) T)) T (Bx T),rfl,I.os,I.bare,⟨fun b o z n y _=>?_,fun b o z n y x=>?_,fun b o z n x=>?_,fun b o z x=>?_,fun b xs z=>?_,fun b o u z=>?_,fun b ps z=>?_⟩,?_,?_,aD,Te,⟨?_,?_⟩,?_⟩
 ·have g:=ib.keep b o z n y (by simp)
  exact l.keep b o (nb b o g) (nf b y (iL b o z)) (m.keeps b o g)
 ·obtain⟨sl,g⟩:=ib.slot b o z n y x;obtain⟨sl2,g2⟩:=l.slot b _ (nb b _ g) (m.keeps b _ g);exact⟨sl2,g2⟩
 ·obtain⟨o',g⟩:=ib.there b o z x;rw[u1 b (nbT b _ g) (nb b _ g)];exact ib.free b o z n x
 ·obtain⟨o',g⟩:=ib.there b o z x;obtain⟨sl2,g2⟩:=l.slot b _ (nb b _ g) (m.keeps b _ g);exact⟨_,g2⟩
 ·have g:=ib.tups b xs z;rw[u1 b (hu b _ g).2 (hu b _ g).1]; exact g
 ·have g:=ib.zM b o u z;rw[u1 b (hu b _ g).2 (hu b _ g).1]; exact g
 ·obtain⟨more,g⟩:=ib.Ao b ps z;exact⟨more,by rw[u1 b (hu b _ g).2 (hu b _ g).1]; exact g⟩
 ·refine(show mL P w H s.heap from I.hok).ext (fun b=>b=e\/b=T) (fun b u v z y x=>?_) (fun b z=>?_) (fun b z=>?_) (fun b u z y=>?_)
  ·have g:=(I.hok b u z).there;refine l.keep b v (fun q=>y (.inl q)) (fun hm=>?_) (m.keeps b v x);have:=I.wK b hm;rw[z] at this; cases this
  ·rcases z with rfl | rfl
   ·exact .inl ne
   ·exact .inl nT
  ·exact u1 b (fun q=>z (.inr q)) fun q=>z (.inl q)
  ·rcases z with rfl | rfl
   ·rw[aP (Ne.symm Te),aD] at y;cases y;exact WW l.ex
   ·rw[aD] at y;cases y;exact QF l.tb
 ·rw[aP (Ne.symm Te),aD]
 ·cases z:s0.heap.get? e with
  | none=>rfl
  | some o=>
   obtain⟨o',g⟩:=ib.there e o z (by simp)
   rw[m.new] at g; cases g
 ·cases z:s0.heap.get? T with
  | none=>rfl
  | some o=>
   obtain⟨o',g⟩:=ib.there T o z (by simp)
   exact absurd rfl (nbT T o' g)
 ·exact q _ ((aM ne _).trans (aM (by rw[aP Te]; exact nT) _))
end
def veM:List Value:=[.type "ValueError",.type "Exception",.type "BaseException",.type "object"]
structure ExC(K:Frag)(mg:Str->Option Value)(x:Str)(C:Addr):Prop where
 bound:mg x=some (.ref C)
 ok:excIn K C veM "ValueError.__new__" = true
theorem ExC.obj{K:Frag}{C:Addr}{h:Heap}(X:K.In h)(q:excIn K C veM "ValueError.__new__" = true) :
  ∃bm N nm qn bs hdct sn sub ab col dd k0 k1 k2 k3 k5 mN,h.get? C=some (excClassObj nm qn C N bs bm hdct sn sub ab col dd k0 k1 k2 k3 k5 "ValueError.__new__")/\h.Ns N mN/\mN "__init__" = none/\OwnTail h veM bm:=by
 unfold excIn at q;split at q
 ·rename_i dd cd sl ho;split at q
  ·rename_i C' bm k0 k1 k2 k3 n k5 hm hs;simp only[Gg,beq_iff_eq,Bool.not_eq_true'] at q;obtain⟨⟨⟨⟨⟨rfl,rfl⟩,a1⟩,a2⟩,a3⟩,a4⟩:=q;cases cd with
   | mk nm bs mro ns qn hd sn sub ab col del=>
    dsimp only at hm a1 a3 a4;subst hm a1;obtain⟨l⟩:=sl;have e:l=[k0,k1,k2,k3,some (.builtin "ValueError.__new__"),k5]:=hs;subst e;exact⟨bm,ns,nm,qn,bs,hd,sn,sub,ab,col,dd,k0,k1,k2,k3,k5,_,X _ _ ho,.of_isNs (PySem.W.isNs_of_in X a3),PySem.W.nsMap_none_of_in X a3 a4,PySem.W.tail_of_in X a2⟩
  ·cases q
 ·cases q
def Vw(E:XK)(C:Addr)(ta:TA):TS:=fun _ σ H=>ta σ H fun vs H1=>vs.length<=sizeLine/\∀H',aF H1 H'->E (.ref C) none H'
section
variable{P:Program}{w:World}{K:Frag}{mg:Str->Option Value}{base:Heap}{N:List Str}{qual:Str}{scope:Scope}{f:Addr}{cd:Value}{A:Around}{outer:List Env}{s0:Shared}{H0:Hp}{E:XK}
theorem J6{x:Str}{C:Addr}{e0:Expr}{np cpos pos:Pos}{ta:TA}(c:ExC K mg x C)(UW:mL P w H0 s0.heap)(ha:PA (iH (pQ P w) P w K mg base N qual scope f cd A outer s0 H0 E) [e0] ta)(hg:Gl (iH (pQ P w) P w K mg base N qual scope f cd A outer s0 H0 E) x:=by rfl)
  (hd:(x==("__debug__" : Str))=false:=by decide)
  (he:starEach [e0] (iH (pQ P w) P w K mg base N qual scope f cd A outer s0 H0 E).env=[(false,eval e0 (iH (pQ P w) P w K mg base N qual scope f cd A outer s0 H0 E).env)]:=by rfl) :
  PS (iH (pQ P w) P w K mg base N qual scope f cd A outer s0 H0 E) (.Raise (some (.Call (.Name x np) [e0] [] cpos)) none pos) (Vw E C ta):=by
 symm;intro D I h;obtain⟨bm,N1,nm,qn,bs,hdct,sn,sub,ab,col,dd,k0,k1,k2,k3,k5,mN,hC,hN,hni,T⟩:=ExC.obj (show K.In base from I.mod.Xn) c.ok;have bk:∀{s:Shared}{H:Hp}{σ:St},Inv (iH (pQ P w) P w K mg base N qual scope f cd A outer s0 H0 E) ae σ H s->∀b o,base.get? b=some o->s.heap.get? b=some o:=fun I=>I.bk;refine wpAny_Raise_call_subU (C:=C) (nm:=nm) (q:=qn) (N:=N1) (bs:=bs) (bm:=bm) (hdct:=hdct) (sn:=sn) (sub:=sub) (ab:=ab) (col:=col) (dd:=dd) (k0:=k0) (k1:=k1) (k2:=k2) (k3:=k3) (k5:=k5) (newId:="ValueError.__new__")
  PySem.F.excBase_ValueError ⋯ PySem.F.excBase_ValueError (mN:=mN) (T.hasType PySem.F.excBase_ValueError.hasBase) (I.ok.hd rfl) (by rw[he]; rfl) hni (tX I hg c.bound ⟨rfl,?_⟩ hd)
 have g:=ha cpos ae s σ H _ I h;rw[he] at g ⊢;refine Calls.evalArgs_plain (iM g (fun us s2 z=>?_) fun _ _ y=>y);obtain⟨vs,H2,I2,rv,l2,q2⟩:=z;refine⟨rfl,by rw[<- rv.length]; exact l2,bk I2 _ _ hC,hN.keeps (bk I2),T.keeps (bk I2),fun h' e m=>Mr I2 m UW q2⟩
end
section
variable{X:Cx}{ae:List (Addr×Obj)}{σ:St}{H:Hp}{s:Shared}
theorem aax{i:Nat}{x:Str}{m:Str->Option Value}{v:Option Value}{h':Heap}{t':Nat}(I:Inv X ae σ H s)(hN:X.N.Nodup)(hi:X.N[i]?=some x)(hs:Heap.SameBut X.env.locals s.heap h')(hn:s.heap.Ns X.env.locals m)(hn':h'.Ns X.env.locals fun y=>if y=x then v else m y)
  (hl:∀(j:Nat)(y:Str)(w:V),X.N[j]?=some y->σ[j]?=some (some w)->Vis X.env.scope y->∃u,RelV w u/\Look X.env s.heap m y u):Inv X ae (σ.set i none) H { s with heap:=h',toks:=t' }:=by
 have iz:i<σ.length:=by rw[I.len]; exact(gC.mp hi).1
 obtain⟨oL,_,_,hoL,_⟩:=id hn;have far:∀b o,X.s₀.heap.get? b=some o->h'.get? b=s.heap.get? b:=fun b o e=>hs.2 b (gB (lF (cI e) I.ok.above));refine⟨I.ok,I.os,I.bare,⟨fun b o e n hb hx=>(far b o e).trans (I.base.keep b o e n hb hx),fun b o e n hb hx=>?_,I.base.free,fun b o e hx=>?_,I.base.tups,I.base.zM,I.base.Ao⟩,⟨_,hn',fun j y w e1 e2 e3=>?_⟩,fun y c e=>?_,I.free,I.kW,fun p hp=>?_,fun b ob e=>?_,by simpa using I.len⟩
 ·obtain⟨sl,e1⟩:=I.base.slot b o e n hb hx;exact⟨sl,(far b o e).trans e1⟩
 ·obtain⟨o',e1⟩:=I.base.there b o e hx;exact⟨o',(far b o e).trans e1⟩
 ·by_cases hj:j=i
  ·subst hj;rw[Qk iz] at e2;cases e2
  ·rw[List.getElem?_set_ne (Ne.symm hj)] at e2;obtain⟨u,r,q⟩:=hl j y w e1 e2 e3;refine⟨u,r,?_⟩;rcases q with⟨k,e⟩ | ⟨k,c,e,z⟩
   ·refine .inl ⟨k,?_⟩;have:y≠x:=fun e=>hj (yX hN e1 (e▸hi));simp[this,e]
   ·exact .inr ⟨k,c,e,z.sameBut hs (I.cne y c e)⟩
 ·obtain⟨w',z⟩:=I.cell y c e;exact⟨w',z.sameBut hs (I.cne y c e)⟩
 ·obtain⟨e,n,ne,nf,d⟩:=I.pin p hp;exact⟨(hs.2 p.1 ne).trans e,n,ne,nf,d⟩
 ·refine(I.hok b ob e).stay (fun c w' hc q=>(hs.2 c ?_).trans q) (fun _ q=>q) fun _ _ q=>q;rintro rfl;rcases hc with rfl | hc
  ·rw[I.free] at e; cases e
  ·rw[I.free] at hc; cases hc
theorem name_goes{M:Model}{A:Around}{E:Value->Shared->Prop}{i:Nat}{x:Str}{pos:Pos}{Q:Unit->Shared->Prop}(I:Inv X ae σ H s)(hN:X.N.Nodup)(hi:X.N[i]?=some x)(hx:X.env.scope.names.lookup x=some .local)
  (q:∀s',Inv X ae (σ.set i none) H s'->Q () s'):wpAny M A (do bindName X.env x .none; unbindBehindTheSuite X.env x pos) Q E s:=by
 have hcls:(X.env.scope.kind==.class || (X.env.scope.kind==.module&&X.env.locals != X.env.globals))=false:=by rw[I.ok.kind]; rfl
 refine aY (wpAny_bindName (jt I hN hi (.inl hx) (v:=.non) (u:=.none) rfl (fun s1 I1=>?_) (.inr hx)));unfold unbindBehindTheSuite;refine JL ?_;unfold unbindName;refine aY (wpAny_point (aY ?_));unfold deleteName;have kl:X.env.kindOf x=some .local:=hx;simp only[kl,hcls];rw[bD ⋯]
 obtain⟨m,hn,hl⟩:=id I1.loc;refine aY (wpAny_nsDel_keeps hn fun h2 v hn2 hs2=>?_);have iz:i<σ.length:=by rw[I.len]; exact(gC.mp hi).1
 obtain⟨u,_,lk⟩:=hl i x .non hi (by rw[Qk iz]) (.inl hx)
 have ms:(m x).isSome=true:=by
  rcases lk with⟨_,e⟩ | ⟨k,_⟩
  ·rw[e]; rfl
  ·rw[kl] at k; rcases k with k | k <;> cases k
 rw[ms];simp only[if_true,yr,jM,if_false];refine b_ (wpAny_point ?_);have J:=aax (t':=s1.toks) I1 hN hi hs2 hn hn2 hl;rw[List.set_set] at J;exact q _ J
end
section
variable{X:Cx}{ae:List (Addr×Obj)}{σ:St}{H:Hp}{s:Shared}
abbrev Cx.in'(X:Cx)(e:Value):Cx:={ X with A:=X.A.mark (some e),calm:=false }
theorem Inv.inE(I:Inv X ae σ H s)(e:Value):Inv (X.in' e) ae σ H s:=
 ⟨⟨I.ok.mod,I.ok.kind,I.ok.glob,I.ok.blt,I.ok.above,I.ok.inj,I.ok.has,I.ok.cab,(fun z=>nomatch z),I.ok.frames,I.ok.stk,I.ok.exf,I.ok.bs,I.ok.U7,I.ok.Kl,I.ok.Og,I.ok.wy,I.ok.frf⟩,I.os,I.bare,I.base,I.loc,I.cell,I.free,I.kW,I.pin,I.hok,I.len⟩
theorem Inv.agE{e:Value}(I:Inv (X.in' e) ae σ H s)(ok:X.Ok):Inv X ae σ H s:=⟨ok,I.os,I.bare,I.base,I.loc,I.cell,I.free,I.kW,I.pin,I.hok,I.len⟩
theorem Inv.ext{H':Hp}{h':Heap}(I:Inv X ae σ H s)(S:Addr->Prop)(keep:∀b o,¬S b->b∉frs X.stack->s.heap.get? b=some o->h'.get? b=some o)(slot:∀b o,¬S b->s.heap.get? b=some o->∃sl,h'.get? b=some { o with slots:=sl })
  (there:∀b o,S b->s.heap.get? b=some o->∃o',h'.get? b=some o') (hs:∀b,S b->(H b=none/\s.heap.get? b=none)\/∃φ,H b=some (.ext φ))
  (o1:∀b,¬S b->H' b=H b) (o2:∀b u,S b->H' b=some u->cH X.prog X.w H' h' b u):Inv X ae σ H' { s with heap:=h' }:=by
 have un:∀b o,s.heap.get? b=some o->H b=none->¬S b:=fun b o e n z=>by
  rcases hs b z with⟨_,q⟩ | ⟨φ,q⟩
  ·rw[e] at q; cases q
  ·rw[n] at q; cases q
 have tr:∀b u,H b=some u->(∀φ,u≠.ext φ)->H' b=some u:=fun b u e n=>by
  rw[o1 b fun z=>(hs b z).elim (fun q=>by rw[q.1] at e; cases e) fun⟨φ,q⟩=>by rw[q] at e; cases e; exact n φ rfl]
  exact e
 refine I.call (ch:=[]) (g':=s.gens) (t':=s.toks) (d':=s.drawn) ⟨fun b o e n hb _=>keep b o (un b o e n) hb e,fun b o e n hb _=>slot b o (un b o e n) e,fun b o e n _=>(by rw[o1 b (un b o e n)]; exact n),fun b o e _=>?_,fun b xs e=>tr b _ e (fun φ z=>by cases z),fun b o u e=>tr b _ e (fun φ z=>by cases z),fun b ps e=>⟨#[],(by rw[tr b _ e (fun φ z=>by cases z)]; simp)⟩⟩ ?_ I.bare fun b z=>nomatch z
 ·by_cases z:S b
  ·exact there b o z e
  ·obtain⟨sl,q⟩:=slot b o z e; exact⟨_,q⟩
 ·refine I.hok.ext S (fun b u v e z q=>?_) (fun b z=>(hs b z).elim (fun q=>.inl q.1) .inr) o1 o2;refine keep b v z (fun hm=>?_) q;have:=I.wK b hm;rw[e] at this; cases this
theorem T7{M:Model}{A:Around}{E:Value->Shared->Prop}{a T:Addr}{cls:Value}{Q:Unit->Shared->Prop}(I:Inv X ae σ H s)(ha:H a=some (xf a cls T))(hT:H T=some (Bx T))(q:∀s',Inv X ae σ H s'->Q () s') :
  wpAny M A (setFlight (.ref a) none) Q E s:=by
 obtain⟨oe,vs,e1,ec,ed,ev,_⟩:=xf.at (I.hok a _ ha);obtain⟨oT,ts,t1,td,tv⟩:=Bx.at (I.hok T _ hT);unfold setFlight;refine aY (jT e1 ed ev ?_);rw[aL (show(Value.ref T != Value.none)=true by simp)]
 have tz:=(Bc.mp tv).1;refine Dd t1 td tz ?_;have dT:=Obj.data_mapFields td (·.setIfInBounds 3 ((none:Option Addr).elim Value.none fun f=>rawInt f));have g1:=A_ (Obj.mapFields (·.setIfInBounds 3 ((none:Option Addr).elim Value.none fun f=>rawInt f))) t1 (Obj.isFreed_of_fields dT);have g2:∀b,b≠T->(s.heap.update T (Obj.mapFields (·.setIfInBounds 3 ((none:Option Addr).elim Value.none fun f=>rawInt f)))).get? b=s.heap.get? b:=fun b z=>vZ _ _ (Ne.symm z);refine q _ (I.ext (fun b=>b=T) (fun b o z _ e=>(g2 b z).trans e) (fun b o z e=>⟨o.slots,(g2 b z).trans e⟩) (fun b o z e=>by subst z; exact⟨_,g1⟩) (fun b z=>.inr (by subst z; exact⟨_,hT⟩)) (fun _ _=>rfl) fun b u z e=>?_)
 subst z;rw[hT] at e;cases e;exact QF ⟨_,_,g1,dT,by simp[tz]⟩
end
def YB(H:Hp)(a:Addr)(cls:Value):Prop:=∃T,H a=some (xf a cls T)
section
variable{X:Cx}{ae:List (Addr×Obj)}{σ:St}{H1:Hp}{s1 s':Shared}
theorem Yn{e:Value}{E:XK}{D:Ends}{hx n:Str}{CH:Addr}{hp pos:Pos}{b0:Stmt}{body:List Stmt}{ie:Nat}{ts:TS}(I:Inv X ae σ H1 s1)(c:pQ X.prog X.w X.stack H1 s1 E e s')
  (hE:∀cls H2,E cls none H2->exmOne X.K cls (.ref CH)=some true/\∀a H3,(aF H1 H2->aF H1 H3)->YB H3 a cls->ts { nx:=fun σ' H'=>D.nx (σ'.set ie none) H',rt:=fun _ _=>False } (σ.set ie (some (.ref a))) H3)
  (hN:X.N.Nodup) (hi:X.N[ie]?=some n) (hl:X.env.scope.names.lookup n=some .local) (hg:Gl X hx) (hm:X.mg hx=some (.ref CH)) (hs:∀e,BK (X.in' e) (b0::body) ts) (hn:∀e s,X.xe e s->False) (st:X.stack=X.env::X.outer) (fL:X.env.frame=some X.env.locals) (hd:(hx==("__debug__" : Str))=false) :
  wpAny (model X.prog X.w) X.A (noteFrame e X.env) (fun _ s2=>wpAny (model X.prog X.w) X.A (setFlight e none) (fun _ s3=>wpAny (model X.prog X.w) X.A (handleBy e X.env [.ExceptHandler (some (.Name hx hp)) (some n) (b0::body) pos]) (SP X ae D) X.xe s3) X.xe s2) X.xe s':=by
 obtain⟨a,T0,cls,H2,rfl,os,bare,un,hok,ha,hT0,n0,⟨na',acB⟩,q⟩:=c;have na:H1 a=none:=I.hok.none na';have nT0:H1 T0=none:=I.hok.none acB;obtain⟨ex,q⟩:=hE cls H2 q;have I2:Inv X ae σ H2 s':=I.call' (ch:=[]) os un hok bare fun b z=>nomatch z
 have ff:s'.heap.FunFrames X.base (X.env::X.outer):=by rw[<- st]; exact I2.stack
 have fr:X.A.frames=some (X.env::X.outer):=by rw[<- st]; exact I2.ok.frames
 refine noteE2 fr ff fL (xf.at (hok a _ ha)) (Bx.at (hok T0 _ hT0)) n0 fun h3 T nt=>?_
 have fT:s'.heap.get? T=none:=by
  cases z:s'.heap.get? T with
  | none=>rfl
  | some o=>exact absurd (cI z) (Nat.not_lt.mpr nt.fresh)
 have nT:H2 T=none:=hok.none fT;have Ta:T≠a:=fun z=>by rw[z,ha] at nT; cases nT
 have TT:T≠T0:=fun z=>by rw[z,hT0] at nT; cases nT
 have I3:Inv X ae σ (upd (upd (upd H2 T0 (YX T0)) a (xf a cls T)) T (Bx T)) { s' with heap:=h3 }:=by
  refine I2.ext (fun b=>b=a\/b=T0\/b=T) (fun b o z y x=>nt.keep b o (fun w=>z (.inl w)) (fun w=>z (.inr (.inl w))) (by rw[<- st]; exact y) x) (fun b o z x=>nt.slot b o (fun w=>z (.inl w)) (fun w=>z (.inr (.inl w))) x) (fun b o z x=>?_) (fun b z=>?_) (fun b z=>?_) (fun b u z y=>?_)
  ·rcases z with rfl | rfl | rfl
   ·obtain⟨oe,vs,e1,_⟩:=nt.ex; exact⟨_,e1⟩
   ·exact nt.old
   ·rw[fT] at x; cases x
  ·rcases z with rfl | rfl | rfl
   ·exact .inr ⟨_,ha⟩
   ·exact .inr ⟨_,hT0⟩
   ·exact .inl ⟨nT,fT⟩
  ·rw[aP fun w=>z (.inr (.inr w)),aP fun w=>z (.inl w),aP fun w=>z (.inr (.inl w))]
  ·rcases z with rfl | rfl | rfl
   ·rw[aP (Ne.symm Ta),aD] at y; cases y; exact WW nt.ex
   ·rw[aP (Ne.symm TT),aP n0,aD] at y; cases y; exact abj nt.old
   ·rw[aD] at y; cases y; exact QF nt.tb
 have hx3:upd (upd (upd H2 T0 (YX T0)) a (xf a cls T)) T (Bx T) a=some (xf a cls T):=by rw[aP (Ne.symm Ta),aD]
 have hT3:upd (upd (upd H2 T0 (YX T0)) a (xf a cls T)) T (Bx T) T=some (Bx T):=aD
 have sm:aF H1 H2->aF H1 (upd (upd (upd H2 T0 (YX T0)) a (xf a cls T)) T (Bx T)):=fun y b o z=>by
  have g:=y b o z;rw[aP (fun w=>by rw[w,nT] at g; cases g),aP (fun w=>by rw[w,na] at z; cases z),aP (fun w=>by rw[w,nT0] at z; cases z)]
  exact g
 have q3:=q a _ sm ⟨T,hx3⟩;generalize upd (upd (upd H2 T0 (YX T0)) a (xf a cls T)) T (Bx T)=H3 at I3 hx3 hT3 q3;generalize ({ s' with heap:=h3 }:Shared)=s3 at I3
 refine wpAny_handleBy_cons (codeAny_handlers_test ?_) (by intro z; cases z)
 refine Calls.Name_function_global I3.ok.kind hg (Calls.loadGlobal_global (by rw[I3.ok.glob]; exact I3.mod.glob.keeps I3.bk) hm ?_) hd
 obtain⟨oe,vs,e1,⟨ec,_⟩,ed,ev⟩:=xf.at (I3.hok a _ hx3);have LT:PySem.W.Looks (model X.prog X.w) s3.heap (typeOf (.ref a)) cls:=ec▸(PySem.W.Looks.ld e1).andThen .now;refine(PySem.W.exm_one I3.qg LT ex).here ?_;refine codeAny_handlers_suite_as (T7 I3 hx3 hT3 fun s4 I4=>?_);refine jt I4 hN hi (.inl hl) (v:=.ref a) rfl (fun s5 I5=>?_) (.inr hl);refine iM (hs (.ref a) ae s5 _ _ _ (I5.inE (.ref a)) q3) (fun fl s6 z=>?_) fun e6 s6 z=>(hn _ _ z).elim;cases fl with
 | next=>
  obtain⟨σ6,H6,I6,q6⟩:=z;exact name_goes (I6.agE I5.ok) hN hi hl fun s7 I7=>⟨_,H6,I7,q6⟩
 | ret u=>
  obtain⟨v,σ6,H6,I6,rv,q6⟩:=z;exact q6.elim
 | brk=>
  obtain⟨_,_,_,q6⟩:=z;exact False.elim q6
 | cont=>
  obtain⟨_,_,_,q6⟩:=z;exact False.elim q6
end
section
variable{P:Program}{w:World}{K:Frag}{mg:Str->Option Value}{base:Heap}
theorem X4{CX:Rx}{k:Nat}{f:Addr}{name qual:Str}{params:Arguments}{body:List Stmt}{scope:Scope}{dV kV doc pm cdv ct oc:Value}{an od:Option Addr}
  {osl:Array (Option Value)} {N ps:List Str} {sp:Sp} (lk:K.lookup f=some ⟨oc,od,.func (fnOf name qual params body scope dV kV doc pm an cdv ct),osl⟩) (hcd:codeIn K cdv qual=true) (S:a_ N ps scope)
  (len:∀vs H Q E,sp vs H Q E->vs.length=ps.length)
  (hbody:∀(A:Around)(outer:List Env)(s:Shared)(H:Hp)(vs:List V)(Q:VK)(E:XK),mL P w H s.heap->jm k (A.deeper (envOfC qual scope s.heap.objs.size f cdv))->sp vs H Q E ->
   ∃t,BK (iH CX P w K mg base N qual scope f cdv A outer s H E) body t/\t { nx:=fun _ H'=>Q .non H',rt:=Q } (start N vs) H) :
  bZ P w K mg base CX (k+1) f (fnOf name qual params body scope dV kV doc pm an cdv ct) ps sp:=by
 refine⟨len,fun A outer s H args us vs Q E hr e0 hb r hsp=>?_⟩;have hl:=len _ _ _ _ hsp;have KX:K.In s.heap:=e0.mod.Xn.keeps fun b o e=>(e0.bs b o e).1;have lim:s.heap.NoLimit:=e0.mod.nolimit.keeps fun b o e=>(e0.bs b o e).1
 have hkind:∀y∈ps.zip us,scope.names.lookup y.1=some .local\/(scope.names.lookup y.1=some .cell/\((cellsFrom (s.heap.objs.size+1) scope.names []).lookup y.1).isSome=true):=fun⟨n,v⟩ hy=>by
  rcases S.par n (List.of_mem_zip hy).1 with q | q
  ·exact .inl q
  ·exact .inr ⟨q,cellsFrom_some _ _ _ (.inl q)⟩
 refine codeAny_call_function hr.depth (KX _ _ lk) rfl S.co S.gen rfl (codeRec_of KX hcd) (hb _ _ _ _ ?_);refine wpAny_newFunctionEnv_cells S.kind hkind fun env he s1 x=>?_;subst he;refine⟨lim.keeps x.toInCall.keep,codeAny_func ?_⟩;obtain⟨t,ht,hq⟩:=hbody A outer s H vs Q E e0.hok (hr.deeper _) hsp;have I:Inv (iH CX P w K mg base N qual scope f cdv A outer s H E) [] (start N vs) H s1:=DG S hr.hd e0 hl r x;refine iM (ht [] s1 (start N vs) H _ I hq) (fun fl s' hs=>?_) fun e s' hs=>hs
 have fin:∀{σ':St}{H':Hp}{v:V}{u:Value},Inv (iH CX P w K mg base N qual scope f cdv A outer s H E) [] σ' H' s'->RelV v u->Q v H'->CE outer P w H s Q u s':=
  fun {σ' H' v u} J rv q=>⟨v,H',J.os,J.bare,J.base,J.hok,rv,q⟩
 cases fl with
 | ret u=>
  obtain⟨v,σ',H',J,rv,q⟩:=hs;exact fin J rv q
 | next=>
  obtain⟨σ',H',J,q⟩:=hs;exact fin (v:=V.non) (u:=Value.none) J rfl q
 | brk=>
  obtain⟨_,_,_,q⟩:=hs;exact False.elim q
 | cont=>
  obtain⟨_,_,_,q⟩:=hs;exact False.elim q
theorem jc.okE{x qual:Str}{st:Stmt}{f:Addr}{fd:FuncData}{N ps:List Str}{k:Nat}{sp:Sp}(F:jc K x qual st f fd)(S:a_ N ps (aK st))(len:∀vs H Q E,sp vs H Q E->vs.length=ps.length)
  (hbody:∀(cdv:Value)(A:Around)(outer:List Env)(s:Shared)(H:Hp)(vs:List V)(Q:VK)(E:XK),mL P w H s.heap->jm k (A.deeper (envOfC qual (aK st) s.heap.objs.size f cdv))->sp vs H Q E ->
   ∃t,BK (iH (pQ P w) P w K mg base N qual (aK st) f cdv A outer s H E) (eU st) t/\t { nx:=fun _ H'=>Q .non H',rt:=Q } (start N vs) H):bZ P w K mg base (pQ P w) (k+1) f fd ps sp:=by
 obtain⟨oc,od,kV,doc,pm,an,cdv,ct,osl,rfl,lk,hcd⟩:=F.ex;exact X4 lk hcd S len fun A outer s H vs Q E UW hr hsp=>hbody cdv A outer s H vs Q E UW hr hsp
structure YW(P:Program)(w:World)(K:Frag)(mg:Str->Option Value)(base:Heap)(k:Nat)(x:Str)(ps:List Str)(sp:Sp) where
 f:Addr
 fd:FuncData
 G:bZ P w K mg base (pQ P w) k f fd ps sp
 kp:keepIn K (.ref f)=true
 b:Binds K fd ps []
 m:mg x=some (.ref f)
def YW.mono{j k:Nat}{x:Str}{ps:List Str}{sp:Sp}(c:YW P w K mg base j x ps sp)(h:j<=k):YW P w K mg base k x ps sp:={ c with G:=c.G.mono h }
end
section
variable{prog:Program}{w:World}{A:Around}{E:Value->Shared->Prop}{s:Shared}{K:Frag}{x D:Addr}{ox:Obj}{od:Option Obj}
structure YT(K:Frag)(D:Addr):Prop where
 ga:findIn K (.ref D) "__getattribute__" = some (some (.builtin "BaseException.__getattribute__"))
 gt:findIn K (.ref D) "__getattr__" = some none
 fo:findObj K D none "__class__" = some (.bind (.builtin "getset_descriptor.__get__") (.builtin "object.__class__"))
 sb:subIn K (.ref D) (.type "BaseException")=some true
 ob:mroIn K D (.type "object")=some true
theorem YT.of(ga:findIn K (.ref D) "__getattribute__" = some (some (.builtin "BaseException.__getattribute__")))(gt:findIn K (.ref D) "__getattr__" = some none)(fi:findIn K (.ref D) "__class__" = some (some (.builtin "object.__class__")))
  (sp:specialIn K (.builtin "object.__class__") "__get__" = some (some (.builtin "getset_descriptor.__get__"))) (tk:takesIn K (.builtin "object.__class__")=some true) (hd:hasDictIn K D=true)
  (sb:subIn K (.ref D) (.type "BaseException")=some true) (ob:mroIn K D (.type "object")=some true):YT K D/\(clsIn K D).isSome=true:=by
 obtain⟨cd,hc,_⟩:=PySem.W.any_some hd;refine⟨⟨ga,gt,?_,sb,ob⟩,by rw[hc]; rfl⟩
 unfold findObj;rw[hc,Option.bind_some,fi,Option.bind_some];simp[sp,tk]
theorem T8{Q:Option Value->Shared->Prop}(X:K.In s.heap)(I:PySem.W.InstAt s.heap x ox D none)(F:YT K D)(q:Q (some (.ref D)) { s with toks:=s.toks+1 }):wpAny (model prog w) A (getAttr? (.ref x) "__class__") Q E s:=by
 obtain⟨hh,g,d,t,os⟩:=s;have L0:=I.type (M:=model prog w);have L1:=looks_findIn (M:=model prog w) X F.ga;have L2:=looks_findIn (M:=model prog w) X F.gt;have L3:=PySem.W.looks_find (M:=model prog w) X I F.fo;have L4:=PySem.W.looks_subIn (M:=model prog w) X F.sb;unfold getAttr? getAttrBy? getAttrBy;refine aY (wpAny_mkText (aY (wpAny_attempt (nO (aY (L0.at (aY (L1.at ?_))))))));have e2:(Value.builtin "BaseException.__getattribute__" == Value.builtin "object.__getattribute__")=false:=by decide +kernel
 have e3:(onTheHeap (Value.ref D)&&Value.builtin "BaseException.__getattribute__" == Value.builtin "object.__getattribute__")=false:=by rw[e2]; rfl
 dsimp only;rw[e3,bD ⋯]
 unfold getAttrByItsOwn hookBefore;refine aY ?_;rw[aL (by rfl)]
 refine L2.at ?_;have f3:=PySem.F.excAttr_ValueError.ga.bind (.ref x);have e0:(false&&onTheHeap (Value.builtin "BaseException.__getattribute__"))=false:=rfl;unfold callGetattribute boundAndCalled;simp only[e0];rw[bD ⋯]
 refine aY (wpAny_attempt (nO (aY (uO f3 ?_))));refine wpAny_call (codeAny_call_builtin PySem.F.excAttr_ValueError.ga.plain PySem.F.entry_bexc_ga ?_);show wpAny _ _ (checkBuiltinCall "BaseException.__getattribute__" ⟨[.ref x,.str "__class__" t],[]⟩) _ _ _;have hk:builtinKind "BaseException.__getattribute__" = some .slot:=by decide +kernel
 have hsp:splitId "BaseException.__getattribute__" = some ("BaseException","__getattribute__"):=by decide +kernel
 have hag:=PySem.F.args_bexc_ga (.ref x) (.str "__class__" t);simp only[checkBuiltinCall,hk,hsp];refine aY ?_;unfold isInstance;refine aY (L0.at (L4.at ?_))
 repeat (any_goals (first | assumption | wp_step))
 refine wpAny_loadPart_at I.at_ (b_ ?_);rw[I.cls];refine aY (L3.at ?_);dsimp only;show wpAny _ _ (holding [Value.builtin "object.__class__"] (call (.builtin "getset_descriptor.__get__") [.builtin "object.__class__",.ref x,.ref D]) >>= ret) _ _ _;refine aY (nO (wpAny_call (PySem.W.class_get X I F.ob ?_)));refine b_ ?_;refine PySem.W.handed_on rfl ?_;exact b_ q
theorem Ia.inst{h:Heap}{T:Addr}(y:Ia h x (.ref D) T):∃ox,PySem.W.InstAt h x ox D none:=by
 obtain⟨oe,vs,e1,⟨ec,dn⟩,ed,_⟩:=y;refine⟨oe,e1,ec,?_,?_⟩
 ·obtain⟨c,dd,dt,sl⟩:=oe;cases ed;rfl
 ·obtain⟨c,dd,dt,sl⟩:=oe;cases dn
  trivial
theorem Xl(F:YT K D)(hc:(clsIn K D).isSome=true):PySem.W.KitX K (.ref x) (.ref D) (fun h=>∃ox,PySem.W.InstAt h x ox D none) where
 ty:=fun _ _ _ ⟨_,I⟩=>I.type
 it:=fun _ _ X _=>by
  obtain⟨cdD,hcD⟩:=Bb.mp hc;unfold clsIn at hcD;split at hcD
  ·rename_i c' d' cd' sl' ho;intro A' Q' E' s' k q;unfold isType loadHead;exact aY (wpAny_loadPart (k _ _ (X _ _ ho)) (b_ q))
  ·cases hcD
 ne:=fun h tp dd its n sl X htp=>by
  obtain⟨cdD,hcD⟩:=Bb.mp hc;refine Bool.eq_false_iff.mpr fun q=>?_;have e:D=tp:=Value.ref.inj (beq_iff_eq.mp q);subst e;unfold clsIn at hcD;split at hcD
  ·rename_i c' d' cd' sl' ho;have z:=(X _ _ ho).symm.trans htp;cases z
  ·cases hcD
 ca:=fun X ⟨_,I⟩ k=>T8 X I F k
end
section
variable{X:Cx}
theorem iU{K:Frag}(hK:X.K=K):cZ X (.builtin "isinstance") (fun vs H Q=>∃(a D:Addr)(c:V)(cv:Value)(b:Bool),vs=[.ref a,c]/\YB H a (.ref D)/\YT K D/\(clsIn K D).isSome=true/\RelV c cv/\(∀u,RelV c u->u=cv)/\kitOne K (.ref D) cv=some b/\Q (.bl b) H):=by
 subst hK;symm;intro vs us Q I r h;obtain⟨a,D,c,cv,b,rfl,⟨T,ha⟩,F,hc,rc,un,e,q⟩:=h;obtain⟨u,t,rfl,ru,rt⟩:=r.two;cases(show u=Value.ref a from ru);obtain rfl:=un t rt;exact kia_one (Xl F hc) I.qg (Ia.inst (xf.at (I.hok a _ ha))) e (fun z=>nomatch z) fun tk=>⟨.bl b,H,I.tok tk,rfl,q⟩
end
noncomputable instance af1:DecidableEq PyData:=fun a b=>Classical.propDecidable (a=b)
mutual
def rm:PyData->Bool
 | .int _=>true
 | .tuple ds=>gM ds
 | _=>false
def gM:List PyData->Bool
 | []=>true
 | d::ds=>rm d&&gM ds
end
theorem yZ:∀{ds:List PyData},gM ds=true↔∀d∈ds,rm d=true
 | []=>by simp[gM]
 | d::ds=>by
  have ih:=yZ (ds:=ds);simp only[gM,Gg,ih,bT,forall_eq_or_imp]
mutual
theorem lH:∀d:PyData,rm d=true->d.canLay0=true/\d.hasDict=false/\kE d=true
 | .int _,_=>⟨rfl,rfl,rfl⟩
 | .tuple ds,h=>by
  obtain⟨h1,h2,h3⟩:=QG ds (by simpa[rm] using h)
  exact⟨by simpa[PyData.canLay0] using h1,by simpa[PyData.hasDict] using h2,by simpa[kE] using h3⟩
 | .none,h=>nomatch h
 | .bool _,h=>nomatch h
 | .str _,h=>nomatch h
 | .list _,h=>nomatch h
 | .dict _,h=>nomatch h
theorem QG:∀ds:List PyData,gM ds=true->PyData.canLayAll0 ds=true/\PyData.hasDictAll ds=false/\bJ ds=true
 | [],_=>⟨rfl,rfl,rfl⟩
 | d::ds,h=>by
  have h':rm d=true/\gM ds=true:=by simpa[gM] using h
  obtain⟨h1,h2,h3⟩:=lH d h'.1;obtain⟨g1,g2,g3⟩:=QG ds h'.2;exact⟨by simp[PyData.canLayAll0,h1,g1],by simp[PyData.hasDictAll,h2,g2],by simp[bJ,h3,g3]⟩
end
mutual
theorem GK:∀d e:PyData,rm d=true->rm e=true->(PyData.eqv d e=true↔d=e)
 | .int i,.int j,_,_=>by simp[PyData.eqv]
 | .int i,.tuple es,_,_=>by simp[PyData.eqv]
 | .tuple ds,.int j,_,_=>by simp[PyData.eqv]
 | .tuple ds,.tuple es,h,g=>by
  have:=Km ds es (by simpa[rm] using h) (by simpa[rm] using g)
  simpa[PyData.eqv] using this
 | .none,_,h,_=>nomatch h
 | .bool _,_,h,_=>nomatch h
 | .str _,_,h,_=>nomatch h
 | .list _,_,h,_=>nomatch h
 | .dict _,_,h,_=>nomatch h
 | .int _,.none,_,h=>nomatch h
 | .int _,.bool _,_,h=>nomatch h
 | .int _,.str _,_,h=>nomatch h
 | .int _,.list _,_,h=>nomatch h
 | .int _,.dict _,_,h=>nomatch h
 | .tuple _,.none,_,h=>nomatch h
 | .tuple _,.bool _,_,h=>nomatch h
 | .tuple _,.str _,_,h=>nomatch h
 | .tuple _,.list _,_,h=>nomatch h
 | .tuple _,.dict _,_,h=>nomatch h
theorem Km:∀ds es:List PyData,gM ds=true->gM es=true->(PyData.eqvAll ds es=true↔ds=es)
 | [],[],_,_=>by simp[PyData.eqvAll]
 | [],_::_,_,_=>by simp[PyData.eqvAll]
 | _::_,[],_,_=>by simp[PyData.eqvAll]
 | d::ds,e::es,h,g=>by
  have h':rm d=true/\gM ds=true:=by simpa[gM] using h
  have g':rm e=true/\gM es=true:=by simpa[gM] using g
  have h1:=GK d e h'.1 g'.1;have h2:=Km ds es h'.2 g'.2;simp[PyData.eqvAll,h1,h2]
end
theorem Z6{d e:PyData}(h:rm d=true)(g:rm e=true):PyData.eqv d e=decide (d=e):=by
 by_cases z:d=e
 ·rw[ju z]; exact(GK d e h g).mpr z
 ·rw[jL z];cases q:PyData.eqv d e with
  | false=>rfl
  | true=>exact absurd ((GK d e h g).mp q) z
mutual
def bN:PyData->Int
 | .int i=>hashInt i
 | .tuple ds=>reduceHash (Builtin.Tuple.tupleHashOf (ji ds))
 | _=>0
def ji:List PyData->List Int
 | []=>[]
 | d::ds=>bN d::ji ds
end
mutual
def Rb:PyData->Nat
 | .tuple ds=>lK ds+1
 | _=>1
def lK:List PyData->Nat
 | []=>0
 | d::ds=>Rb d+lK ds
end
theorem zK:∀a b:List PyData,ji (a++b)=ji a++ji b
 | [],_=>rfl
 | d::a,b=>by rw[P_,ji,ji,zK a b]; rfl
theorem zP:∀a b:List PyData,lK (a++b)=lK a+lK b
 | [],_=>by rw[JQ,lK,Aw]
 | d::a,b=>by rw[P_,lK,lK,zP a b,vM]
theorem mF:∀{ds:List PyData}{d:PyData},d∈ds->d.depth<=PyData.depthAll ds
 | x::ds,d,h=>by
  show d.depth<=max x.depth (PyData.depthAll ds);rcases bT.mp h with rfl | h
  ·omega
  ·have:=mF h;omega
def H_(prog:Program)(w:World)(d:PyData):Prop:=∀(A:Around)(E:Value->Shared->Prop)(s:Shared)(v:Value)(as:List Addr)(Q:Int->Shared->Prop),Reads s.heap v d as->A.units+d.depth<cLine ->
 Q (bN d) { s with toks:=s.toks+Rb d }->wpAny (model prog w) A (PySem.pyHash v) Q E s
theorem XJ{prog:Program}{w:World}{ds:List PyData}(ih:∀d∈ds,H_ prog w d):H_ prog w (.tuple ds):=by
 intro A E s v as Q r hu h;cases r with
 | @tuple a o items n _ _ ho hc hd hi=>
 have hT:s.TypeIs (.ref a) "tuple" := ⟨o,ho,hc⟩;have ak4:A.units+(PyData.depthAll ds+1)<cLine:=hu;have hu0:A.units<cLine:=by omega
 unfold pyHash
 first | unfold pyHashByItsType | skip
 first | refine aY (wpAny_cRoomFor_or (.inr hu0) ?_) | skip
 refine aY (Di hT F.slot_tuple_hash.lookup ?_);show wpAny _ _ (if(some (Value.builtin "tuple.__hash__")==some Value.none)=true then _ else _) Q E s
 rw[bD (by rw[beq_builtin_none]; exact mj)]
 refine aY (Di hT F.slot_tuple_hash.lookup ?_);show wpAny _ _ (callSpecialIfBoundUnlessNone? (.ref a) "__hash__" _ >>= _) Q E s;refine aY (wpAny_callSpecialIfBoundUnlessNone?_slot hT F.slot_tuple_hash (yC F.slot_tuple_hash hT F.entry_tuple_hash ?_ (F.args_tuple_hash_1 _)));show wpAny _ _ (Builtin.Tuple.tupleItemsOf (.ref a) >>= _) _ _ s;refine aY (wpAny_tupleItemsOf ho hd ?_);refine aY ?_;rw[<- Qf];refine JS _
  (fun rest (b:Array Int) s'=>∃done left bs,ds=done++left/\ReadsAll s.heap rest left bs/\b.toList=ji done/\s'={ s with toks:=s.toks+lK done })
  _ ?_ ?_ _ _ ⟨[],ds,_,rfl,hi,rfl,rfl⟩
 ·rintro x rest b s' ⟨done,left,bs,e,hl,hb,rfl⟩;cases hl with
  | @cons _ _ k ks' as1 bs1 h1 hl'=>
   have hk:k∈ds:=by rw[e]; simp
   refine aY (ih k hk _ _ _ _ _ _ h1 ?_ ?_)
   ·have:=mF hk;show A.units+1+k.depth<cLine;omega
   ·exact b_ ⟨done++[k],ks',_,by rw[e]; simp,hl',by rw[zK]; simp[hb,ji],by rw[zP]; simp[lK,vM]⟩
 ·rintro b s' ⟨done,left,bs,e,hl,hb,rfl⟩;cases hl;rw[oY] at e;subst e;show wpAny _ _ (retInt (Builtin.Tuple.tupleHashOf b.toList)) _ _ _;rw[hb];refine wpAny_ret_mkInt ?_;show wpAny _ _ (if(decide (-(2:Int) ^ 63<=Builtin.Tuple.tupleHashOf (ji ds))&&decide (Builtin.Tuple.tupleHashOf (ji ds)<2 ^ 63))=true then _ else _) Q E _
  unfold bN reduceHash Rb at h;by_cases hr:(decide (-(2:Int) ^ 63<=Builtin.Tuple.tupleHashOf (ji ds))&&decide (Builtin.Tuple.tupleHashOf (ji ds)<2 ^ 63))=true
  ·rw[aL hr];rw[aL hr] at h;exact b_ (by simpa[vM] using h)
  ·rw[bD hr];rw[bD hr] at h;exact aY (qH (b_ (by simpa[vM] using h)))
mutual
theorem DX{prog:Program}{w:World}:∀d:PyData,rm d=true->H_ prog w d
 | .int i,_=>by
  intro A E s v as Q r hu h;cases r;exact wpAny_pyHash_int h
 | .tuple ds,h=>XJ (zH ds (by simpa[rm] using h))
 | .none,h=>nomatch h
 | .bool _,h=>nomatch h
 | .str _,h=>nomatch h
 | .list _,h=>nomatch h
 | .dict _,h=>nomatch h
theorem zH{prog:Program}{w:World}:∀ds:List PyData,gM ds=true->∀d∈ds,H_ prog w d
 | [],_,d,hd=>by cases hd
 | x::ds,h,d,hd=>by
  have h':rm x=true/\gM ds=true:=by simpa[gM] using h
  rcases bT.mp hd with e | e
  ·rw[e]; exact DX x h'.1
  ·exact zH ds h'.2 d e
end
def w6(prog:Program)(w:World)(d:PyData):Prop:=∀(n:Nat)(A:Around)(E:Value->Shared->Prop)(s:Shared)(v:Value)(as:List Addr)(Q:Bool->Shared->Prop),Reads s.heap v d as->d.depth<=n->Q true s ->
 wpAny (model prog w) A (eqIsQuiet n v) Q E s
theorem Sd{prog:Program}{w:World}{ds:List PyData}(ih:∀d∈ds,w6 prog w d):w6 prog w (.tuple ds):=by
 intro n A E s v as Q r hn h;have hn:PyData.depthAll ds+1<=n:=hn;obtain⟨m,rfl⟩:∃m,n=m+1:=⟨n-1,∅⟩
 cases r with
 | @tuple a o items nn _ _ ho hc hd hi=>
 have hT:s.TypeIs (.ref a) "tuple" := ⟨o,ho,hc⟩;unfold eqIsQuiet;refine aY (Di hT F.slot_tuple_eq.lookup ?_);show wpAny _ _ (isInstance (.ref a) (.type "tuple") >>= _) _ _ s;refine aY (wpAny_isInstance hT isSubtype_tuple_tuple ?_);simp only[yr,jM,if_false];refine aY (qX ho hd ?_);refine aY ?_;show wpAny _ _ (forIn items _ _) _ _ s;rw[<- Qf];refine JS _ (fun rest r s'=>r.1=none/\s'=s/\∃left bs,(∀d∈left,d∈ds)/\ReadsAll s.heap rest left bs) _ ?_ ?_ _ _ ⟨rfl,rfl,ds,_,fun d h=>h,hi⟩
 ·rintro v rest r s' ⟨hr,rfl,left,bs,hall,hl⟩;cases hl with
  | @cons _ _ k ks' as1 bs1 h1 hl'=>
  have hk:=hall k jw;have:=mF hk;refine aY (ih k hk m _ _ _ _ _ _ h1 ∅ ?_)
  simp only[yr,jM,if_false];exact b_ ⟨rfl,rfl,ks',bs1,fun d h=>hall d (iR _ h),hl'⟩
 ·rintro⟨r1,r2⟩ s' ⟨hr,rfl,_⟩;simp only at hr;subst hr;exact b_ h
mutual
theorem yJ{prog:Program}{w:World}:∀d:PyData,rm d=true->w6 prog w d
 | .int i,_=>by
  intro n A E s v as Q r hu h;cases r;rw[eqIsQuiet_byValue _ rfl];exact b_ h
 | .tuple ds,h=>Sd (vN ds (by simpa[rm] using h))
 | .none,h=>nomatch h
 | .bool _,h=>nomatch h
 | .str _,h=>nomatch h
 | .list _,h=>nomatch h
 | .dict _,h=>nomatch h
theorem vN{prog:Program}{w:World}:∀ds:List PyData,gM ds=true->∀d∈ds,w6 prog w d
 | [],_,d,hd=>by cases hd
 | x::ds,h,d,hd=>by
  have h':rm x=true/\gM ds=true:=by simpa[gM] using h
  rcases bT.mp hd with e | e
  ·rw[e]; exact yJ x h'.1
  ·exact vN ds h'.2 d e
end
mutual
theorem yq{h h':Heap}(k:∀b o,h.get? b=some o->o.cls=.type "tuple" -> (∃vs n,o.data=.seq vs n)->h'.get? b=some o):∀(d:PyData)(v:Value)(as:List Addr),rm d=true->Reads h v d as->Reads h' v d as
 | .int i,_,_,_,r=>by cases r; exact .int _ _
 | .tuple ds,_,_,g,r=>by
  cases r with
  | tuple ho hc hd hi=>exact .tuple (k _ _ ho hc ⟨_,_,hd⟩) hc hd (vL k ds _ _ (by simpa[rm] using g) hi)
 | .none,_,_,h,_=>nomatch h
 | .bool _,_,_,h,_=>nomatch h
 | .str _,_,_,h,_=>nomatch h
 | .list _,_,_,h,_=>nomatch h
 | .dict _,_,_,h,_=>nomatch h
theorem vL{h h':Heap}(k:∀b o,h.get? b=some o->o.cls=.type "tuple" -> (∃vs n,o.data=.seq vs n)->h'.get? b=some o):∀(ds:List PyData)(vs:List Value)(as:List Addr),gM ds=true->ReadsAll h vs ds as->ReadsAll h' vs ds as
 | [],_,_,_,r=>by cases r; exact .nil
 | d::ds,_,_,g,r=>by
  have g':rm d=true/\gM ds=true:=by simpa[gM] using g
  cases r with
  | cons h1 h2=>exact .cons (yq k d _ _ g'.1 h1) (vL k ds _ _ g'.2 h2)
end
noncomputable def bL(prog:Program)(w:World):HeapKind prog w PyData where
 is:=fun h d a=>rm d=true/\d.depth<=8/\∃as,Reads h (.ref a) d as
 hash:=bN
 draws:=Rb
 room:=fun A=>A.units+60<cLine
 inj:=fun⟨g,_,_,r⟩ ⟨_,_,_,r'⟩=>SeqAt.Reads.unique _ _ _ _ _ (lH _ g).1 r r'
 keeps:=fun {h h' k a d o es ep} ⟨g,dp,as,r⟩ ho hd hs=>⟨g,dp,as,yq (fun b ob hb hc ⟨vs,n,hq⟩=>by
  have hne:b≠d:=by
   rintro rfl;obtain rfl:ob=o:=Option.some.inj (hb.symm.trans ho);rw[hd] at hq; exact nomatch hq
  exact(hs.2 b hne).trans hb) _ _ _ g r⟩
 pyHash:=fun hu ⟨g,dp,as,r⟩ h=>DX _ g _ _ _ _ _ _ r ∅ h
 eqBool:=fun {A E s x y a b Q} hu ⟨g,dp,as,r⟩ ⟨g',dp',as',r'⟩ h=>by
  have:=SeqAt.eqAt_reads x y A s _ _ _ _ r r' (lH _ g).1 (lH _ g').1 (by have:=Nat.min_le_left x.depth y.depth; omega)
  rw[Z6 g g'] at this;exact this prog w E Q h
 quiet:=fun⟨g,dp,as,r⟩ h=>yJ _ g 8 _ _ _ _ _ _ r dp h
mutual
theorem At.tupS{H H':Hp}(k:∀b xs,H b=some (.tup xs)->H' b=some (.tup xs)):∀(d:PyData)(v:V),kE d=true->At H d v->At H' d v
 | .none,_,_,h=>by unfold At at h ⊢; exact h
 | .bool _,_,_,h=>by unfold At at h ⊢; exact h
 | .int _,_,_,h=>by unfold At at h ⊢; exact h
 | .str _,_,_,h=>by unfold At at h ⊢; exact h
 | .tuple ds,v,n,h=>by
  unfold At at h ⊢;obtain⟨a,ys,e,h1,h2⟩:=h;exact⟨a,ys,e,k _ _ h1,ak.tupS k ds ys (by simpa[kE] using n) h2⟩
 | .list _,_,n,_=>by simp[kE] at n
 | .dict _,_,n,_=>by simp[kE] at n
theorem ak.tupS{H H':Hp}(k:∀b xs,H b=some (.tup xs)->H' b=some (.tup xs)):∀(ds:List PyData)(ys:List V),bJ ds=true->ak H ds ys->ak H' ds ys
 | [],_,_,h=>by unfold ak at h ⊢; exact h
 | d::ds,ys,n,h=>by
  unfold ak at h ⊢;obtain⟨x,r,e,h1,h2⟩:=h;have n':kE d=true/\bJ ds=true:=by simpa[bJ] using n
  exact⟨x,r,e,At.tupS k d x n'.1 h1,ak.tupS k ds r n'.2 h2⟩
end
structure qK(d:PyData):Prop where
 t:∃ds,d=.tuple ds
 k:rm d=true
 dp:d.depth<=8
def ndE(x:PyData×Addr×Value):DictEntry:=⟨bN x.1,.ref x.2.1,x.2.2⟩
def NdP(a:Addr)(xs:List (PyData×Addr×Value))(h:Heap):Prop:=∃o es ep,h.get? a=some o/\o.ExactDict/\o.data=.dict es ep/\es.toList=xs.map ndE/\(xs.map (·.1)).Nodup/\xs.length<=sizeLine/\(a==sysModules)=false
def U_(a:Addr)(xs:List (PyData×Addr×Value)):HO:=.ext (NdP a xs)
def nR(H:Hp)(a:Addr)(kvs:List (PyData×V)):Prop:=∃xs,H a=some (U_ a xs)/\Paired (fun(p:PyData×V)(q:PyData×Addr×Value)=>p.1=q.1/\qK p.1/\At H p.1 (.ref q.2.1)/\RelV p.2 q.2.2) kvs xs
theorem nR.keep{H H':Hp}{a:Addr}{kvs:List (PyData×V)}(n:nR H a kvs)(ha:H' a=H a)(k:∀b xs,H b=some (.tup xs)->H' b=some (.tup xs)):nR H' a kvs:=by
 obtain⟨xs,e,r⟩:=n;exact⟨xs,ha.trans e,Paired.aac r fun _ _ z=>⟨z.1,z.2.1,At.tupS k _ _ (lH _ z.2.1.k).2.2 z.2.2.1,z.2.2.2⟩⟩
theorem nR.same{H H':Hp}{a:Addr}{kvs:List (PyData×V)}(n:nR H a kvs)(s:aF H H'):nR H' a kvs:=by
 obtain⟨xs,e,r⟩:=id n;exact n.keep ((s _ _ e).trans e.symm) fun b xs h=>s _ _ h
theorem nR.ext{H:Hp}{a:Addr}{kvs:List (PyData×V)}(n:nR H a kvs):∃φ,H a=some (.ext φ):=by
 obtain⟨xs,e,_⟩:=n;exact⟨_,e⟩
abbrev KN(H:Hp):List (PyData×V)->List (PyData×Addr×Value)->Prop:=Paired fun p q=>p.1=q.1/\qK p.1/\At H p.1 (.ref q.2.1)/\RelV p.2 q.2.2
theorem KN.val{H:Hp}{kvs:List (PyData×V)}{xs:List (PyData×Addr×Value)}(r:KN H kvs xs)(k:PyData):Uy (jC kvs k) ((atKey xs k).map (·.2)):=by
 induction r with
 | nil=>exact True.intro
 | @cons p q ps qs h t ih=>
  obtain⟨h1,_,_,h2⟩:=h;by_cases e:p.1=k
  ·have e':q.1=k:=h1.symm.trans e;have b:atKey (q::qs) k=some q.2:=by simp[atKey,List.find?_cons,e']
   rw[gQ e,b]; exact h2
  ·have e':¬q.1=k:=fun z=>e (h1.trans z);have b:atKey (q::qs) k=atKey qs k:=by simp[atKey,List.find?_cons,e']
   rw[gU e,b]; exact ih
theorem KN.repl{H:Hp}{kvs:List (PyData×V)}{xs:List (PyData×Addr×Value)}(r:KN H kvs xs)(k:PyData){y:V}{u:Value}(ry:RelV y u) :
  KN H (kvs.map fun kv=>if kv.1=k then(kv.1,y) else kv) (xs.map (putAt k u)):=by
 induction r with
 | nil=>exact .nil
 | @cons p q ps qs h t ih=>
  rw[oX,oX];refine .cons ?_ ih;obtain⟨h1,h2,h4,h3⟩:=h;unfold putAt;by_cases e:p.1=k
  ·rw[aL e,aL (h1.symm.trans e)]; exact⟨h1,h2,h4,ry⟩
  ·rw[bD e,bD (fun z=>e (h1.trans z))]; exact⟨h1,h2,h4,h3⟩
theorem KN.put{H:Hp}{kvs:List (PyData×V)}{xs:List (PyData×Addr×Value)}(r:KN H kvs xs){k:PyData}{b:Addr}{y:V}{u:Value}(hk:qK k)(hb:At H k (.ref b))(ry:RelV y u) :
  KN H (putK kvs k y) (storedH xs k b u):=by
 have e:(kvs.any fun kv=>decide (kv.1=k))=(atKey xs k).isSome:=by
  rw[rT,(r.val k).Dz,Option.isSome_map]
 unfold putK storedH;rw[e];by_cases q:(atKey xs k).isSome=true
 ·rw[aL q,aL q]; exact r.repl k ry
 ·rw[bD q,bD q]; exact Paired.snoc r ⟨rfl,hk,hb,ry⟩
section
variable{X:Cx}{ae:List (Addr×Obj)}{σ:St}{H:Hp}{s:Shared}{a:Addr}{kvs:List (PyData×V)}
theorem vO(ok:mL X.prog X.w H s.heap){d:PyData}{b:Addr}(hk:qK d)(hd:At H d (.ref b)):(bL X.prog X.w).is s.heap d b:=by
 obtain⟨as,r⟩:=l_ ok d (.ref b) (.ref b) hd rfl (lH _ hk.k).2.1;exact⟨hk.k,hk.dp,as,r⟩
theorem acx(ok:mL X.prog X.w H s.heap):∀{kvs:List (PyData×V)}{xs:List (PyData×Addr×Value)},KN H kvs xs->∀x∈xs,(bL X.prog X.w).is s.heap x.1 x.2.1:=by
 intro kvs xs r
 induction r with
 | nil=>intro x hx; exact nomatch hx
 | @cons p q ps qs h t ih=>
  intro x hx;rcases bT.mp hx with e | hx
  ·subst e;obtain⟨h1,h2,h3,_⟩:=h;rw[h1] at h2 h3;exact vO ok h2 h3
  ·exact ih x hx
theorem W4(I:Inv X ae σ H s)(n:nR H a kvs):∃xs,H a=some (U_ a xs)/\KN H kvs xs/\s.heap.DictOfH (bL X.prog X.w) a xs/\xs.length<=sizeLine/\(a==sysModules)=false:=by
 obtain⟨xs,e,r⟩:=n;obtain⟨⟨o,es,ep,h1,h2,h3,h4,h5,h6,h7⟩,_,_⟩:=(show cH X.prog X.w H s.heap a (U_ a xs) from I.hok a _ e);exact⟨xs,e,r,⟨o,es,ep,h1,h2,h3,h4,acx I.hok r,h5⟩,h6,h7⟩
theorem abk{P:Program}{w:World}{H:Hp}{h:Heap}{xs:List (PyData×Addr×Value)}(n:NdP a xs h):cH P w H h a (U_ a xs):=by
 obtain⟨o,es,ep,h1,r⟩:=n;refine⟨⟨o,es,ep,h1,r⟩,⟨o,h1⟩,fun h1' h2' ⟨o',es',ep',g1,g⟩ k=>⟨o',es',ep',k _ g1,g⟩⟩
theorem tO{A:Around}(hu:A.units+64<cLine):(bL X.prog X.w).room A.in1:=by
 show A.units+1+60<cLine;omega
def mJ(H:Hp)(d:PyData)(y:V):Prop:=qK d/\At H d y
theorem mJ.ref{d:PyData}{y:V}{u:Value}(k:mJ H d y)(r:RelV y u):∃b,y=.ref b/\u=.ref b:=by
 obtain⟨⟨⟨ds,rfl⟩,_,_⟩,h⟩:=k;unfold At at h;obtain⟨b,_,rfl,_,_⟩:=h;exact⟨b,rfl,r⟩
theorem W5{A:Around}{E:Value->Shared->Prop}{Q:Value->Shared->Prop}{d:PyData}{y:V}{u:Value}(hu:A.units+64<cLine)(I:Inv X ae σ H s)(n:nR H a kvs)(ky:mJ H d y)(ry:RelV y u)(h:∀s',Inv X ae σ H s'->Q (.bool (!(jC kvs d).isSome)) s') :
  wpAny (model X.prog X.w) A (compareOp .NotIn u (.ref a)) Q E s:=by
 obtain⟨b,rfl,rfl⟩:=ky.ref ry;obtain⟨xs,e,r,dd,z,hd⟩:=W4 I n;refine wpAny_notIn_heap (tO hu) (vO I.hok ky.1 ky.2) hd dd ?_;have q:=(KN.val r d).Dz;rw[Option.isSome_map] at q;rw[<- q];exact h _ (I.tok _)
theorem W3{h':Heap}{t':Nat}{xs ys:List (PyData×Addr×Value)}{kvs':List (PyData×V)}(I:Inv X ae σ H s)(e:H a=some (U_ a xs))(hs:Heap.SameBut a s.heap h')(dd:h'.DictOfH (bL X.prog X.w) a ys)(z:ys.length<=sizeLine)(hd:(a==sysModules)=false)(r:KN H kvs' ys) :
  Inv X ae σ (upd H a (U_ a ys)) { s with heap:=h',toks:=t' }/\nR (upd H a (U_ a ys)) a kvs':=by
 obtain⟨o,es,ep,h1,h2,h3,h4,h5,h6⟩:=dd;refine⟨I.write (x:=a) (e:=a) (by rw[e]; exact True.intro) (.inl rfl) (fun b q hb z=>(hs.2 b hb).trans z) ⟨o,h1⟩ (abk ⟨o,es,ep,h1,h2,h3,h4,h6,z,hd⟩),ys,aD,?_⟩
 refine Paired.aac r fun _ _ z=>⟨z.1,z.2.1,At.tupS (fun b xs hb=>?_) _ _ (lH _ z.2.1.k).2.2 z.2.2.1,z.2.2.2⟩;have nb:b≠a:=fun z=>by rw[z,e] at hb; cases hb
 rw[aP nb]; exact hb
theorem Jd(xs:List (PyData×Addr×Value))(k:PyData)(b:Addr)(u:Value):(storedH xs k b u).length<=xs.length+1:=by
 unfold storedH;split
 ·rw[bW]; omega
 ·rw[c7,jU,JN]; exact dM _
theorem Tf(I:Inv X ae σ H s)(n:nR H a kvs):s.TypeIs (.ref a) "dict" := by
 obtain⟨xs,e,rel,dd,z,hd⟩:=W4 I n;exact dd.typeIs
end
section
variable{X:Cx}
theorem Sx(hu:X.A.units+64<cLine):rR X (compareOp .NotIn) (fun x y H Q=>∃a kvs d,y=.ref a/\nR H a kvs/\mJ H d x/\Q (.bl (!(jC kvs d).isSome)) H):=by
 symm;intro x y v u Q I rx ry h;obtain⟨a,kvs,d,rfl,n,k,q⟩:=h;cases ry;exact W5 hu I n k rx fun s' I'=>⟨.bl _,H,I',rfl,q⟩
theorem W6{h:Heap}(hb:sysModules<h.objs.size):NdP h.objs.size [] (h.push { cls:=.type "dict",data:=.dict #[] }):=
 ⟨_,#[],0,dF _ rfl,⟨rfl,rfl,rfl⟩,rfl,rfl,Dc,fG _,beq_eq_false_iff_ne.mpr (Ne.symm (gB hb))⟩
end
def gR:Nat->Nat->Nat
 | 0,x=>x
 | r+1,x=>gR r (5*x+1)
theorem NB:∀(r s x:Nat),gR (r+s) x=gR s (gR r x)
 | 0,s,x=>by rw[Aw]; rfl
 | r+1,s,x=>by rw[show r+1+s=(r+s)+1 by omega]; exact NB r s (5*x+1)
theorem XS:∀k:Nat,∃a b:Nat,∀x,gR (2 ^ k) x=(1+4*2 ^ k*a)*x+2 ^ k*(1+2*b)
 | 0=>⟨1,0,fun x=>by show 5*x+1=(1+4*1*1)*x+1*(1+2*0); omega⟩
 | k+1=>by
  obtain⟨a,b,h⟩:=XS k;refine⟨a+2*2 ^ k*a*a,b+2 ^ k*a+2*b*2 ^ k*a,fun x=>?_⟩;rw[show 2 ^ (k+1)=2 ^ k+2 ^ k by rw[JH]; omega,NB,h,h]
  generalize 2 ^ k=P
  grind
theorem aat(k x:Nat):gR (2 ^ k) x % (2 ^ k*2)=(x+2 ^ k) % (2 ^ k*2):=by
 obtain⟨a,b,h⟩:=XS k;rw[h];generalize 2 ^ k=P;have e:(1+4*P*a)*x+P*(1+2*b)=(x+P)+P*2*(2*a*x+b):=by grind
 rw[e,Nat.add_mul_mod_self_left]
theorem Tj{P z y:Nat}(h:z % P=y % P):z % (P*2)=y % (P*2)\/(z+P) % (P*2)=y % (P*2):=by
 rcases Nat.eq_zero_or_pos P with e | hp
 ·subst e;left;simpa using h
 ·rw[Nat.mod_mul,Nat.mod_mul (x:=y),Nat.mod_mul (x:=z+P),h,Nat.add_mod_right,h,Nat.add_div_right _ hp];rcases Nat.mod_two_eq_zero_or_one (z / P) with a | a <;> rcases Nat.mod_two_eq_zero_or_one (y / P) with b | b
  ·left; rw[a,b]
  ·right; rw[b,show(z / P).succ % 2=1 by omega]
  ·right; rw[b,show(z / P).succ % 2=0 by omega]
  ·left; rw[a,b]
theorem Hg:∀(k x y:Nat),∃r,r<2 ^ k/\gR r x % 2 ^ k=y % 2 ^ k
 | 0,x,y=>⟨0,⋯,by rw[Nat.pow_zero,Nat.mod_one,Nat.mod_one]⟩
 | k+1,x,y=>by
  obtain⟨r,hr,e⟩:=Hg k x y;have hp:0<2 ^ k:=Nat.pow_pos ⋯
  rw[JH];rcases Tj e with z | z
  ·exact⟨r,∅,z⟩
  ·exact⟨r+2 ^ k,∅,by rw[NB,aat]; exact z⟩
open SetTable (Probe runEnd leap turns bits)
def Em(m:Nat)(p:Probe):Probe:=
 if p.more>0 then { p with j:=p.j+1,more:=p.more-1 } else
 { p with j:=(leap m p.i p.perturb).1,more:=runEnd m (leap m p.i p.perturb).1-(leap m p.i p.perturb).1,i:=(leap m p.i p.perturb).1,perturb:=(leap m p.i p.perturb).2 }
theorem ac6(t:SetTable)(p:Probe):t.advance p=Em t.mask p:=rfl
def iI(m:Nat):Nat->Probe->Probe
 | 0,p=>p
 | n+1,p=>iI m n (Em m p)
theorem m8(m:Nat):∀(a b:Nat)(p:Probe),iI m (a+b) p=iI m b (iI m a p)
 | 0,b,p=>by rw[Aw]; rfl
 | a+1,b,p=>by rw[show a+1+b=(a+b)+1 by omega]; exact m8 m a b (Em m p)
theorem Xq(m n:Nat)(p:Probe):iI m (n+1) p=Em m (iI m n p):=m8 m n 1 p
structure WP(m:Nat)(p:Probe):Prop where
 i:p.i<=m
 j:p.j+p.more=runEnd m p.i
 q:p.perturb<2 ^ 64
 d:p.dummy=none
 ij:p.i<=p.j
theorem je{m i:Nat}(h:i<=m):runEnd m i<=m/\i<=runEnd m i/\runEnd m i<=i+9:=by unfold runEnd; split <;> omega
theorem tV(m i q:Nat):(leap m i q).1<=m:=by
 show(i*5+1+q / 32) % (m+1)<=m;exact Nat.le_of_lt_succ (Nat.mod_lt _ (Nat.succ_pos m))
theorem WP.Em{m:Nat}{p:Probe}(h:WP m p):WP m (Em m p):=by
 unfold L2.Em;have hj:=h.j;by_cases c:p.more>0
 ·rw[aL c];exact⟨h.i,by show p.j+1+(p.more-1)=runEnd m p.i; omega,h.q,h.d,by show p.i<=p.j+1; have:=h.ij; omega⟩
 ·rw[bD c];have l:=tV m p.i p.perturb;have r:=je l;refine⟨l,?_,?_,h.d,dM _⟩
  ·show(leap m p.i p.perturb).1+(runEnd m (leap m p.i p.perturb).1-(leap m p.i p.perturb).1)=runEnd m (leap m p.i p.perturb).1;omega
  ·show p.perturb / 32<2 ^ 64;have:=h.q;omega
theorem WP.iI{m:Nat}:∀(n:Nat){p:Probe},WP m p->WP m (iI m n p)
 | 0,_,h=>h
 | n+1,_,h=>WP.iI n h.Em
theorem WP.le{m:Nat}{p:Probe}(h:WP m p):p.j<=m:=by
 have:=h.j;have:=(je h.i).1;omega
theorem WP.more{m:Nat}{p:Probe}(h:WP m p):p.more<=9:=by
 have hj:=h.ij;have:=h.j;have:=(je h.i).2.2;omega
theorem xF(t:SetTable)(h:Int):WP t.mask (t.probeStart h):=by
 have l:bits h % (t.mask+1)<=t.mask:=Nat.le_of_lt_succ (Nat.mod_lt _ (Nat.succ_pos t.mask));have r:=je l;refine⟨l,?_,?_,rfl,dM _⟩
 ·show bits h % (t.mask+1)+(runEnd t.mask (bits h % (t.mask+1))-bits h % (t.mask+1))=runEnd t.mask (bits h % (t.mask+1));omega
 ·show bits h<2 ^ 64;unfold bits;have:=Gk h (show(0:Int)<2 ^ 64 by decide)
  have:=Gf h (show(2:Int) ^ 64≠0 by decide)
  omega
def jmp(m i q:Nat):Probe:={ j:=i,more:=runEnd m i-i,i:=i,perturb:=q,dummy:=none }
theorem tZ{m:Nat}:∀(n:Nat){p:Probe},WP m p->p.more=n->iI m (n+1) p=jmp m (leap m p.i p.perturb).1 (leap m p.i p.perturb).2
 | 0,p,h,e=>by
  show Em m p=_;unfold Em;rw[bD ∅,h.d]; rfl
 | n+1,p,h,e=>by
  show iI m (n+1) (Em m p)=_;have e2:Em m p={ p with j:=p.j+1,more:=p.more-1 }:=by unfold Em; rw[aL ∅]
  have:=tZ n h.Em (by rw[e2]; show p.more-1=n; omega)
  rw[this,e2]
def vP(m:Nat):Nat->Nat->Nat->Nat×Nat
 | 0,i,q=>(i,q)
 | n+1,i,q=>vP m n (leap m i q).1 (leap m i q).2
theorem Hc{m i q:Nat}(hi:i<=m)(hq:q<2 ^ 64):WP m (jmp m i q):=by
 have r:=je hi;exact⟨hi,by show i+(runEnd m i-i)=runEnd m i; omega,hq,rfl,dM _⟩
theorem Xo{m i q:Nat}(hi:i<=m):(jmp m i q).more<=9:=by
 have:=je hi;show runEnd m i-i<=9;omega
theorem QZ{m:Nat}:∀(n i q:Nat),i<=m->q<2 ^ 64->∃k,k<=10*n/\iI m k (jmp m i q)=jmp m (vP m n i q).1 (vP m n i q).2
 | 0,i,q,_,_=>⟨0,∅,rfl⟩
 | n+1,i,q,hi,hq=>by
  have w:=Hc hi hq;have e:=tZ _ w rfl;have hm:=Xo (q:=q) hi;have hq':(leap m i q).2<2 ^ 64:=by show q / 32<2 ^ 64; omega
  obtain⟨k,hk,ek⟩:=QZ n (leap m i q).1 (leap m i q).2 (tV m i q) hq';refine⟨(jmp m i q).more+1+k,∅,?_⟩
  rw[m8,e];exact ek
theorem GZ(m:Nat):∀(a b i q:Nat),vP m (a+b) i q=vP m b (vP m a i q).1 (vP m a i q).2
 | 0,b,i,q=>by rw[Aw]; rfl
 | a+1,b,i,q=>by rw[show a+1+b=(a+b)+1 by omega]; exact GZ m a b _ _
theorem Xc(m:Nat):∀(n i q:Nat),(vP m n i q).2=q / 32 ^ n
 | 0,i,q=>by show q=q / 1; omega
 | n+1,i,q=>by
  have:=Xc m n (leap m i q).1 (leap m i q).2;show(vP m n (leap m i q).1 (leap m i q).2).2=_;rw[this];show q / 32 / 32 ^ n=q / 32 ^ (n+1);rw[Nat.div_div_eq_div_mul,JH,Nat.mul_comm]
theorem za(m:Nat):∀(n i:Nat),(vP m n i 0).1 % (m+1)=gR n i % (m+1)
 | 0,i=>rfl
 | n+1,i=>by
  have h:=za m n (leap m i 0).1;have e2:(leap m i 0).2=0:=rfl;show(vP m n (leap m i 0).1 (leap m i 0).2).1 % (m+1)=gR n (5*i+1) % (m+1);rw[e2,h]
  have e1:(leap m i 0).1 % (m+1)=(5*i+1) % (m+1):=by
   show(i*5+1+0 / 32) % (m+1) % (m+1)=_;rw[Nat.mod_mod,show i*5+1+0 / 32=5*i+1 by omega]
  exact XR n e1
where
 XR {N:Nat}:∀(n:Nat){x y:Nat},x % N=y % N->gR n x % N=gR n y % N
  | 0,_,_,h=>h
  | n+1,x,y,h=>XR n (by rw[Nat.add_mod,Nat.mul_mod,h,<- Nat.mul_mod,<- Nat.add_mod])
theorem zb(m:Nat):∀(n i q:Nat),i<=m->(vP m n i q).1<=m
 | 0,_,_,h=>h
 | n+1,i,q,_=>zb m n _ _ (tV m i q)
theorem Yk{k m:Nat}(hm:m+1=2 ^ k){p:Probe}(w:WP m p){y:Nat}(hy:y<=m):∃n,n<10*(m+15)/\(iI m n p).j=y:=by
 have e:=tZ _ w rfl;have hmo:=w.more;have hq1:(leap m p.i p.perturb).2<2 ^ 64:=by have:=w.q; show p.perturb / 32<2 ^ 64; omega
 have l1:=tV m p.i p.perturb;generalize (leap m p.i p.perturb).1=i at e l1;generalize (leap m p.i p.perturb).2=q at e hq1;have hz:(vP m 13 i q).2=0:=by rw[Xc]; exact Nat.div_eq_of_lt ∅
 have l13:=zb m 13 i q l1;obtain⟨r,hr,er⟩:=Hg k (vP m 13 i q).1 y;rw[<- hm] at hr er;obtain⟨n,hn,en⟩:=QZ (13+r) i q l1 hq1;rw[GZ,hz] at en;have lr:=zb m r (vP m 13 i q).1 0 l13
 have ey:(vP m r (vP m 13 i q).1 0).1=y:=by
  have:=za m r (vP m 13 i q).1;rw[er,Qd ∅,Qd ∅] at this
  exact this
 rw[ey] at en;exact⟨p.more+1+n,∅,by rw[m8,e,en]; rfl⟩
def HX(xs:Array Nat):Prop:=∀(a b x y:Nat),xs[a]?=some x->xs[b]?=some y->a<b->x<y
theorem HX.inj{xs:Array Nat}(h:HX xs){a b x:Nat}(ha:xs[a]?=some x)(hb:xs[b]?=some x):a=b:=by
 rcases Dm a b with z | z | z
 ·have:=h _ _ _ _ ha hb z; omega
 ·exact z
 ·have:=h _ _ _ _ hb ha z; omega
theorem Ag{xs:Array Nat}(R:HX xs){j:Nat}:∀(fuel lo hi:Nat),hi-lo<=fuel->lo<=hi->hi<=xs.size->(∀i x,i<lo->xs[i]?=some x->x<j)->(∀i x,hi<=i->xs[i]?=some x->j<=x) ->
  lo<=SetTable.below.go xs j fuel lo hi/\SetTable.below.go xs j fuel lo hi<=hi/\(∀i x,i<SetTable.below.go xs j fuel lo hi->xs[i]?=some x->x<j)/\(∀i x,SetTable.below.go xs j fuel lo hi<=i->xs[i]?=some x->j<=x)
 | 0,lo,hi,hf,h1,_,h2,h3=>by
  unfold SetTable.below.go;have:lo=hi:=by omega
  subst this;exact⟨dM _,dM _,h2,h3⟩
 | fuel+1,lo,hi,hf,h1,hs,h2,h3=>by
  unfold SetTable.below.go;by_cases c:lo<hi
  ·rw[aL c];have hm:(lo+hi) / 2<hi/\lo<=(lo+hi) / 2:=by omega
   generalize (lo+hi) / 2=mid at hm;have hb:mid<xs.size:=by omega
   have eg:xs.getD mid j=xs[mid]:=by simp[Array.getD,hb]
   have em:xs[mid]?=some xs[mid]:=JC hb;dsimp only;rw[eg];by_cases d:xs[mid]<j
   ·rw[aL d]
    obtain⟨g1,g2,g3,g4⟩:=Ag R fuel (mid+1) hi ∅ ∅ hs (fun i x hi' e=>by
     rcases Nat.lt_or_ge i mid with z | z
     ·have:=R _ _ _ _ e em z; omega
     ·have:i=mid:=by omega
      subst this
      rw[em] at e; cases e; exact d) h3
    exact⟨∅,g2,g3,g4⟩
   ·rw[bD d]
    obtain⟨g1,g2,g3,g4⟩:=Ag R fuel lo mid ∅ ∅ ∅ h2 (fun i x hi' e=>by
     rcases Nat.lt_or_ge mid i with z | z
     ·have:=R _ _ _ _ em e z; omega
     ·have:i=mid:=by omega
      subst this
      rw[em] at e; cases e; omega)
    exact⟨g1,∅,g3,g4⟩
  ·rw[bD c];have:lo=hi:=by omega
   subst this;exact⟨dM _,dM _,h2,h3⟩
theorem Lb{xs:Array Nat}(R:HX xs)(j:Nat):SetTable.below xs j<=xs.size/\(∀i x,i<SetTable.below xs j->xs[i]?=some x->x<j)/\(∀i x,SetTable.below xs j<=i->xs[i]?=some x->j<=x):=by
 have:=Ag R (j:=j) xs.size 0 xs.size ∅ ∅ (dM _) (fun i x h=>by omega) (fun i x h e=>by
  have:=(Bc.mp e).1; omega)
 exact⟨this.2.1,this.2.2.1,this.2.2.2⟩
theorem Cj{t:SetTable}(R:HX t.place){i j:Nat}(h:t.place[i]?=some j):t.slot j=.live i:=by
 obtain⟨_,h2,h3⟩:=Lb R j
 have e:SetTable.below t.place j=i:=by
  rcases Dm (SetTable.below t.place j) i with z | z | z
  ·have hb:SetTable.below t.place j<t.place.size:=by have:=(Bc.mp h).1; omega
   have:=R _ _ _ _ (JC hb) h z;have:=h3 _ _ (dM _) (JC hb);omega
  ·exact z
  ·have:=h2 _ _ z h; omega
 unfold SetTable.slot;dsimp only;rw[e,h];simp
theorem xK{t:SetTable}(hd:t.dummies = #[]){j:Nat}(h:∀i:Nat,t.place[i]?≠some j):t.slot j=.empty:=by
 unfold SetTable.slot;dsimp only;rw[bD (by simpa using h _),hd]
 rfl
theorem aag{t:SetTable}(R:HX t.place)(hd:t.dummies = #[])(j:Nat):(∃i:Nat,t.place[i]?=some j/\t.slot j=.live i)\/((∀i:Nat,t.place[i]?≠some j)/\t.slot j=.empty):=by
 by_cases c:∃i:Nat,t.place[i]?=some j
 ·obtain⟨i,h⟩:=c;exact .inl ⟨i,h,Cj R h⟩
 ·have:∀i:Nat,t.place[i]?≠some j:=fun i e=>c ⟨i,e⟩;exact .inr ⟨this,xK hd this⟩
theorem yM{t:SetTable}{hashAt:Nat->Int}{h:Int}:∀(n fuel:Nat)(p:Probe),n<fuel->(∀n',n'<n->∃i,t.slot (iI t.mask n' p).j=.live i/\(hashAt i==h)=false) ->
  SetTable.probe.go t hashAt h fuel p=SetTable.probe.go t hashAt h (fuel-n) (iI t.mask n p)
 | 0,fuel,p,_,_=>rfl
 | n+1,0,p,hf,_=>by omega
 | n+1,fuel+1,p,hf,hl=>by
  obtain⟨i,e1,e2⟩:=hl 0 ∅
  have e1:t.slot p.j=.live i:=e1;have:=yM n fuel (Em t.mask p) ∅ fun n' hn'=>hl (n'+1) ∅
  rw[show fuel+1-(n+1)=fuel-n by omega]
  show SetTable.probe.go t hashAt h (fuel+1) p=SetTable.probe.go t hashAt h (fuel-n) (iI t.mask n (Em t.mask p));rw[<- this]
  conv=>lhs; unfold SetTable.probe.go
  rw[e1];dsimp only;rw[e2];rfl
theorem J7{t:SetTable}{hashAt:Nat->Int}{h:Int}{p:Probe}{n:Nat}(w:WP t.mask p)(hn:n<10*turns t.mask)(hl:∀n',n'<n->∃i,t.slot (iI t.mask n' p).j=.live i/\(hashAt i==h)=false)(he:t.slot (iI t.mask n p).j=.empty) :
  t.probe hashAt h p=some (.empty (iI t.mask n p).j none):=by
 unfold SetTable.probe;rw[yM n _ p hn hl];obtain⟨f,hf⟩:∃f,10*turns t.mask-n=f+1:=⟨10*turns t.mask-n-1,∅⟩
 rw[hf];unfold SetTable.probe.go;rw[he];dsimp only;rw[(w.iI n).d]
theorem Mw{t:SetTable}{hashAt:Nat->Int}{h:Int}{p:Probe}{n i:Nat}(hn:n<10*turns t.mask)(hl:∀n',n'<n->∃i,t.slot (iI t.mask n' p).j=.live i/\(hashAt i==h)=false)(he:t.slot (iI t.mask n p).j=.live i)(hh:hashAt i=h) :
  t.probe hashAt h p=some (.candidate (iI t.mask n p).j i (iI t.mask (n+1) p)):=by
 unfold SetTable.probe;rw[yM n _ p hn hl];obtain⟨f,hf⟩:∃f,10*turns t.mask-n=f+1:=⟨10*turns t.mask-n-1,∅⟩
 rw[hf];unfold SetTable.probe.go;rw[he];dsimp only;rw[hh,Xq];simp[ac6]
end L2
namespace L2
open PySem PySem.Spec PyProof.Rows
open SetTable (Probe runEnd leap turns bits)
theorem Kv{P:Nat->Prop}:∀(n:Nat),P n->∃m,m<=n/\P m/\∀k,k<m->¬P k:=fun n h=>by
 induction n using Nat.strongRecOn with
 | _ n ih=>
  by_cases c:∃k,k<n/\P k
  ·obtain⟨k,hk,pk⟩:=c;obtain⟨m,h1,h2,h3⟩:=ih k hk pk;exact⟨m,∅,h2,h3⟩
  ·exact⟨n,dM _,h,fun k hk pk=>c ⟨k,hk,pk⟩⟩
def way(m:Nat)(h:Int)(n:Nat):Nat:=(iI m n (jmp m (bits h % (m+1)) (bits h))).j
theorem Ci(t:SetTable)(h:Int):t.probeStart h=jmp t.mask (bits h % (t.mask+1)) (bits h):=rfl
def Path(m:Nat)(Td:Nat->Prop)(h:Int)(j:Nat):Prop:=∃n,way m h n=j/\∀n',n'<n->Td (way m h n')
theorem Path.mono{m:Nat}{Td aeN:Nat->Prop}{h:Int}{j:Nat}(p:Path m Td h j)(k:∀y,Td y->aeN y):Path m aeN h j:=by
 obtain⟨n,e,z⟩:=p;exact⟨n,e,fun n' hn=>k _ (z n' hn)⟩
structure Uv(t:SetTable)(hs:List Int):Prop where
 dm:t.dummies = #[]
 ri:HX t.place
 sz:t.place.size=hs.length
 le:∀i j:Nat,t.place[i]?=some j->j<=t.mask
 pw:∃k,3<=k/\k<=12/\t.mask+1=2 ^ k
 fl:5*hs.length<3*t.mask
 pa:∀(i:Nat)(h:Int)(j:Nat),hs[i]?=some h->t.place[i]?=some j->Path t.mask (fun y=>∃i:Nat,t.place[i]?=some y) h j
theorem Uv.odd{t:SetTable}{hs:List Int}(T:Uv t hs):t.gaveWay=false:=by
 obtain⟨k,h1,_,h2⟩:=T.pw;unfold SetTable.gaveWay;obtain⟨k',rfl⟩:∃k',k=k'+1:=⟨k-1,∅⟩
 rw[JH] at h2;have:t.mask % 2=1:=by omega
 rw[this]; rfl
theorem Uv.fits{t:SetTable}{hs:List Int}(T:Uv t hs):t.fits hs.length=true:=by
 have h1:=T.sz;have h2:=T.fl;simp only[SetTable.fits,SetTable.fill,T.dm,h1,Gg,beq_iff_eq,decide_eq_true_eq];refine⟨trivial,?_⟩;show hs.length+0<=t.mask;omega
theorem R4{xs:Array Nat}(R:HX xs){m:Nat}(h:xs.size<=m):∃y,y<=m/\∀i:Nat,xs[i]?≠some y:=by
 by_cases c:∃y,y<=m/\∀i:Nat,xs[i]?≠some y
 ·exact c
 ·exfalso
  have all:∀y,y<=m->∃i:Nat,xs[i]?=some y:=fun y hy=>by
   by_cases d:∃i:Nat,xs[i]?=some y
   ·exact d
   ·exact absurd ⟨y,hy,fun i e=>d ⟨i,e⟩⟩ c
  have up:∀y,y<=m->∃i:Nat,y<=i/\xs[i]?=some y:=by
   intro y
   induction y with
   | zero=>intro hy; obtain⟨i,hi⟩:=all 0 hy; exact⟨i,fG _,hi⟩
   | succ y ih=>
    intro hy;obtain⟨i,h1,h2⟩:=ih ∅
    obtain⟨i',h3⟩:=all (y+1) hy;refine⟨i',?_,h3⟩;rcases Nat.lt_or_ge i i' with z | z
    ·omega
    ·rcases Nat.lt_or_eq_of_le z with z | z
     ·have:=R _ _ _ _ h3 h2 z; omega
     ·subst z; rw[h2] at h3; cases h3
  obtain⟨i,h1,h2⟩:=up m (dM _);have:=(Bc.mp h2).1;omega
theorem Uv.first{t:SetTable}{hs:List Int}(T:Uv t hs){p:Probe}(w:WP t.mask p):∃M,M<10*turns t.mask/\(∀n,n<M->∃i:Nat,t.place[i]?=some (iI t.mask n p).j/\t.slot (iI t.mask n p).j=.live i)/\(∀i:Nat,t.place[i]?≠some (iI t.mask M p).j)/\t.slot (iI t.mask M p).j=.empty:=by
 obtain⟨k,_,_,hk⟩:=T.pw;have h2:=T.fl;obtain⟨y,hy,hn⟩:=R4 T.ri (m:=t.mask) (by rw[T.sz]; omega)
 obtain⟨n,n1,n2⟩:=Yk hk w hy;obtain⟨M,m1,m2,m3⟩:=Kv (P:=fun n=>∀i:Nat,t.place[i]?≠some (iI t.mask n p).j) n (by rw[n2]; exact hn)
 refine⟨M,by unfold turns; omega,fun n hn'=>?_,m2,xK T.dm m2⟩
 rcases aag T.ri T.dm (iI t.mask n p).j with⟨i,z⟩ | ⟨z,_⟩
 ·exact⟨i,z⟩
 ·exact absurd z (m3 n hn')
theorem pF{xs:Array Nat}{p x i:Nat}(hp:p<=xs.size):(SetTable.insertAt xs p x)[i]?=if i<p then xs[i]? else if i=p then some x else xs[i-1]?:=by
 rw[<- Jy,SetTable.toList_insertAt,<- Jy,<- Jy];have hl:(xs.toList.take p).length=p:=by rw[jV,nP]; omega
 by_cases c:i<p
 ·rw[aL c,v8 ∅,List.getElem?_take,aL c]
 ·rw[bD c,tE ∅,hl]
  by_cases d:i=p
  ·rw[aL d,d,tu]; rfl
  ·rw[bD d];obtain⟨q,hq⟩:∃q,i-p=q+1:=⟨i-p-1,∅⟩
   rw[hq,Wf,JW]
   congr 1
   omega
theorem Xx{α:Type}{xs:List α}{p i:Nat}{x:α}(hp:p<=xs.length):(xs.take p++x::xs.drop p)[i]?=if i<p then xs[i]? else if i=p then some x else xs[i-1]?:=by
 have hl:(xs.take p).length=p:=by rw[jV]; omega
 by_cases c:i<p
 ·rw[aL c,v8 ∅,List.getElem?_take,aL c]
 ·rw[bD c,tE ∅,hl]
  by_cases d:i=p
  ·rw[aL d,d,tu]; rfl
  ·rw[bD d];obtain⟨q,hq⟩:∃q,i-p=q+1:=⟨i-p-1,∅⟩
   rw[hq,Wf,JW]
   congr 1
   omega
structure TbJ(t:SetTable)(hs:List Int):Prop where
 dm:t.dummies = #[]
 ri:HX t.place
 sz:t.place.size=hs.length
 le:∀i j:Nat,t.place[i]?=some j->j<=t.mask
 pw:∃k,3<=k/\k<=12/\t.mask+1=2 ^ k
 fl:hs.length<=t.mask
 pa:∀(i:Nat)(h:Int)(j:Nat),hs[i]?=some h->t.place[i]?=some j->Path t.mask (fun y=>∃i:Nat,t.place[i]?=some y) h j
theorem acf{t:SetTable}{j:Nat}(hd:t.dummies = #[]):t.put j=({ t with place:=SetTable.insertAt t.place (SetTable.below t.place j) j,dummies:=#[] },SetTable.below t.place j):=by
 unfold SetTable.put;rw[hd]; rfl
theorem Uv.put{t:SetTable}{hs:List Int}(T:Uv t hs){h:Int}{j:Nat}(hj:j<=t.mask)(hn:∀i:Nat,t.place[i]?≠some j)(hp:Path t.mask (fun y=>∃i:Nat,t.place[i]?=some y) h j) :
  TbJ (t.put j).1 (hs.take (t.put j).2++h::hs.drop (t.put j).2)/\(t.put j).2<=hs.length/\(t.put j).1.mask=t.mask/\(t.put j).1.dummies = #[]:=by
 rw[acf T.dm];dsimp only;obtain⟨b1,b2,b3⟩:=Lb T.ri j;generalize SetTable.below t.place j=p at b1 b2 b3;have hpl:p<=hs.length:=by rw[<- T.sz]; exact b1
 have fl:=T.fl
 have Td:∀y,(∃i:Nat,t.place[i]?=some y)->∃i:Nat,(SetTable.insertAt t.place p j)[i]?=some y:=fun y ⟨i,e⟩=>by
  by_cases c:i<p
  ·exact⟨i,by rw[pF b1,aL c]; exact e⟩
  ·exact⟨i+1,by rw[pF b1,bD ∅,bD ∅]; exact e⟩
 refine⟨⟨rfl,?_,?_,?_,T.pw,?_,?_⟩,hpl,rfl,rfl⟩
 ·intro a b x y ha hb hab;rw[pF b1] at ha hb;by_cases c1:a<p
  ·rw[aL c1] at ha;by_cases c2:b<p
   ·rw[aL c2] at hb; exact T.ri _ _ _ _ ha hb hab
   ·rw[bD c2] at hb;have:=b2 _ _ c1 ha;by_cases c3:b=p
    ·rw[aL c3] at hb; cases hb; exact this
    ·rw[bD c3] at hb;have:=b3 _ _ ∅ hb
     omega
  ·rw[bD c1] at ha;rw[bD ∅,bD ∅] at hb
   by_cases c3:a=p
   ·rw[aL c3] at ha; cases ha;have h1:=b3 _ _ ∅ hb
    rcases Nat.lt_or_eq_of_le h1 with z | z
    ·exact z
    ·subst z; exact absurd hb (hn _)
   ·rw[bD c3] at ha;exact T.ri _ _ _ _ ha hb ∅
 ·rw[<- nP,SetTable.toList_insertAt];simp only[c7,jV,jU,yz,nP,T.sz]
 ·intro i y hy;rw[pF b1] at hy;by_cases c1:i<p
  ·rw[aL c1] at hy; exact T.le _ _ hy
  ·rw[bD c1] at hy;by_cases c3:i=p
   ·rw[aL c3] at hy; cases hy; exact hj
   ·rw[bD c3] at hy; exact T.le _ _ hy
 ·simp only[c7,jV,jU,yz];obtain⟨k,k1,_,k2⟩:=T.pw;have:2 ^ 3<=2 ^ k:=R7 ⋯ k1
  show min p hs.length+(hs.length-p+1)<=t.mask;omega
 ·intro i g y hg hy;rw[Xx hpl] at hg;rw[pF b1] at hy;by_cases c1:i<p
  ·rw[aL c1] at hg hy; exact(T.pa _ _ _ hg hy).mono Td
  ·rw[bD c1] at hg hy;by_cases c3:i=p
   ·rw[aL c3] at hg hy; cases hg; cases hy; exact hp.mono Td
   ·rw[bD c3] at hg hy; exact(T.pa _ _ _ hg hy).mono Td
theorem TbJ.ti{t:SetTable}{hs:List Int}(T:TbJ t hs)(h:t.tooFull=false):Uv t hs:=by
 refine⟨T.dm,T.ri,T.sz,T.le,T.pw,?_,T.pa⟩;have:¬(t.fill*5≥t.mask*3):=by simpa[SetTable.tooFull] using h
 have e:t.fill=hs.length:=by
  show t.place.size+t.dummies.size=hs.length;rw[T.dm,T.sz]; rfl
 rw[e] at this;omega
end L2
namespace L2
open PySem PySem.Spec PyProof.Rows
open SetTable (Probe runEnd leap turns bits)
theorem zq{m:Nat}:∀(n:Nat){p:Probe},n<=p.more->(iI m n p).j=p.j+n
 | 0,p,_=>rfl
 | n+1,p,h=>by
  have e2:Em m p={ p with j:=p.j+1,more:=p.more-1 }:=by unfold Em; rw[aL ∅]
  have:=zq (m:=m) n (p:=Em m p) (by rw[e2]; show n<=p.more-1; omega)
  show(iI m n (Em m p)).j=p.j+(n+1);rw[this,e2];show p.j+1+n=p.j+(n+1);omega
theorem Xd{k m:Nat}(hm:m+1=2 ^ k){i q y:Nat}(hi:i<=m)(hq:q<2 ^ 64)(hy:y<=m):∃L,L<turns m/\(vP m L i q).1=y:=by
 have hz:(vP m 13 i q).2=0:=by rw[Xc]; exact Nat.div_eq_of_lt ∅
 have l13:=zb m 13 i q hi;obtain⟨r,hr,er⟩:=Hg k (vP m 13 i q).1 y;rw[<- hm] at hr er;have lr:=zb m r (vP m 13 i q).1 0 l13
 have ey:(vP m r (vP m 13 i q).1 0).1=y:=by
  have:=za m r (vP m 13 i q).1;rw[er,Qd ∅,Qd ∅] at this
  exact this
 exact⟨13+r,by unfold turns; omega,by rw[GZ,hz]; exact ey⟩
theorem Q_{m:Nat}{ow:Array (Option Nat)}:∀(fuel i q:Nat),i<=m->q<2 ^ 64->(∃L,L<fuel/\ow.getD (vP m L i q).1 (some 0)=none) ->
  ∃n,SetTable.layClean.free m ow fuel i q=some (iI m n (jmp m i q)).j/\ow.getD (iI m n (jmp m i q)).j (some 0)=none/\∀n',n'<n->ow.getD (iI m n' (jmp m i q)).j (some 0)≠none
 | 0,i,q,_,_,h=>by obtain⟨L,h,_⟩:=h; omega
 | fuel+1,i,q,hi,hq,h=>by
  unfold SetTable.layClean.free;have r:=je hi;have hmo:(jmp m i q).more=runEnd m i-i:=rfl;have hj:(jmp m i q).j=i:=rfl;cases ef:(List.range (runEnd m i+1-i)).find? fun k=>(ow.getD (i+k) (some 0)).isNone with
  | some k=>
   obtain⟨k1,l1,l2,e1,e2⟩:=List.find?_eq_some_iff_append.mp ef;have hk:k<runEnd m i+1-i:=qU.mp (by rw[e1]; simp)
   refine⟨k,?_,?_,fun n' hn'=>?_⟩
   ·rw[zq k ∅]; rfl
   ·rw[zq k ∅,hj]; exact Option.isNone_iff_eq_none.mp k1
   ·rw[zq n' ∅,hj]
    intro z
    have hm1:n'∈l1:=by
     have hmem:n'∈List.range (runEnd m i+1-i):=qU.mpr ∅
     have hpw:=List.pairwise_lt_range (n:=runEnd m i+1-i);rw[e1] at hmem hpw;rcases lE.mp hmem with z | z
     ·exact z
     ·exfalso;rcases bT.mp z with z | z
      ·omega
      ·have:=(List.pairwise_cons.mp (List.pairwise_append.mp hpw).2.1).1 _ z;omega
    have:=e2 _ hm1;rw[z] at this;exact absurd this ⋯
  | none=>
   have hno:∀n',n'<=(jmp m i q).more->ow.getD (iI m n' (jmp m i q)).j (some 0)≠none:=fun n' hn' z=>by
    rw[zq n' hn',hj] at z;have:=List.find?_eq_none.mp ef n' (qU.mpr ∅)
    rw[z] at this;exact absurd rfl this
   obtain⟨L,hL,eL⟩:=h
   have L0:L≠0:=fun z=>by
    subst z;exact hno 0 (fG _) eL
   obtain⟨L',rfl⟩:∃L',L=L'+1:=⟨L-1,∅⟩
   have hq':(leap m i q).2<2 ^ 64:=by show q / 32<2 ^ 64; omega
   obtain⟨n,h1,h2,h3⟩:=Q_ fuel (leap m i q).1 (leap m i q).2 (tV m i q) hq' ⟨L',∅,eL⟩
   have e:=tZ _ (Hc hi hq) rfl;have es:∀n',iI m ((jmp m i q).more+1+n') (jmp m i q)=iI m n' (jmp m (leap m i q).1 (leap m i q).2):=fun n'=>by rw[m8,e]; rfl
   refine⟨(jmp m i q).more+1+n,?_,?_,fun n' hn'=>?_⟩
   ·rw[es]; exact h1
   ·rw[es]; exact h2
   ·by_cases c:n'<=(jmp m i q).more
    ·exact hno n' c
    ·obtain⟨d,hd⟩:∃d,n'=(jmp m i q).more+1+d:=⟨n'-((jmp m i q).more+1),∅⟩
     rw[hd,es];exact h3 d ∅
structure OW(m:Nat)(ow:Array (Option Nat))(hs:List Int):Prop where
 sz:ow.size=m+1
 ct:ow.toList.countP Option.isSome=hs.length
 at_:∀(l:Nat)(h:Int),hs[l]?=some h->∃j,j<=m/\ow[j]?=some (some l)/\Path m (fun y=>∃l,ow[y]?=some (some l)) h j
 lt:∀j l:Nat,ow[j]?=some (some l)->l<hs.length
 inj:∀j j' l:Nat,ow[j]?=some (some l)->ow[j']?=some (some l)->j=j'
theorem getD_none{ow:Array (Option Nat)}{j:Nat}(h:ow.getD j (some 0)=none):ow[j]?=some none:=by
 rw[R_] at h;cases e:ow[j]? with
 | none=>rw[e] at h; cases h
 | some o=>rw[e] at h; exact jF some h
theorem OW.push{k m:Nat}(hm:m+1=2 ^ k){ow:Array (Option Nat)}{hs:List Int}(W:OW m ow hs)(h:Int)(hl:hs.length<=m) :
  ∃j,SetTable.layClean.free m ow (turns m) (bits h % (m+1)) (bits h)=some j/\OW m (ow.setIfInBounds j (some hs.length)) (hs++[h]):=by
 have hb:bits h<2 ^ 64:=by
  unfold bits;have:=Gk h (show(0:Int)<2 ^ 64 by decide)
  have:=Gf h (show(2:Int) ^ 64≠0 by decide)
  omega
 have hi:bits h % (m+1)<=m:=Nat.le_of_lt_succ (Nat.mod_lt _ (Nat.succ_pos m))
 obtain⟨y,hy,ey⟩:∃y,y<=m/\ow.getD y (some 0)=none:=by
  by_cases c:∃y,y<=m/\ow.getD y (some 0)=none
  ·exact c
  ·exfalso
   have:ow.toList.countP Option.isSome=ow.toList.length:=List.countP_eq_length.mpr fun o ho=>by
    obtain⟨i,hi⟩:=Ba.mp ho;cases o with
    | some _=>rfl
    | none=>
     have hlt:i<ow.toList.length:=(gC.mp hi).1;rw[nP,W.sz] at hlt;rw[Jy] at hi;exact absurd ⟨i,∅,by rw[R_,hi]; rfl⟩ c
   have h2:ow.toList.length=m+1:=by rw[nP,W.sz]
   have h3:=W.ct;omega
 obtain⟨L,hL,eL⟩:=Xd hm hi hb hy;obtain⟨n,f1,f2,f3⟩:=Q_ (ow:=ow) (turns m) _ _ hi hb ⟨L,hL,by rw[eL]; exact ey⟩
 have wj:(iI m n (jmp m (bits h % (m+1)) (bits h))).j<=m:=((Hc hi hb).iI n).le;have f3:∀n',n'<n->ow.getD (way m h n') (some 0)≠none:=f3;have ej:(iI m n (jmp m (bits h % (m+1)) (bits h))).j=way m h n:=rfl;rw[ej] at f1 f2 wj;have g2:=getD_none f2;refine⟨_,f1,?_⟩;generalize hj:way m h n=j at f1 f2 wj g2;have hjs:j<ow.size:=by rw[W.sz]; omega
 have get:∀y:Nat,(ow.setIfInBounds j (some hs.length))[y]?=if y=j then some (some hs.length) else ow[y]?:=fun y=>by
  rw[Array.getElem?_setIfInBounds];by_cases c:j=y
  ·subst c; simp[hjs]
  ·rw[bD c,bD (fun z=>c z.symm)]
 have Td:∀y:Nat,(∃l,ow[y]?=some (some l))->∃l,(ow.setIfInBounds j (some hs.length))[y]?=some (some l):=fun y ⟨l,e⟩=>by
  rw[get];by_cases c:y=j
  ·exact⟨_,aL c⟩
  ·exact⟨l,by rw[bD c]; exact e⟩
 refine⟨by rw[Array.size_setIfInBounds]; exact W.sz,?_,fun l h' hl'=>?_,fun y l hy'=>?_,fun y y' l h1 h2=>?_⟩
 ·rw[Array.toList_setIfInBounds,List.countP_set (by rw[nP]; exact hjs),W.ct,c7]
  have e0:ow.toList[j]'(by rw[nP]; exact hjs)=none:=by
   have:=JC hjs;rw[g2] at this;simpa using this.symm
  rw[e0];simp
 ·by_cases c:l<hs.length
  ·rw[v8 c] at hl';obtain⟨y',h1,h2,h3⟩:=W.at_ _ _ hl';refine⟨y',h1,?_,h3.mono Td⟩;rw[get,bD (fun z=>by rw[z,g2] at h2; cases h2)]
   exact h2
  ·have hl2:l<(hs++[h]).length:=(gC.mp hl').1;rw[c7] at hl2;have e:l=hs.length:=by simp at hl2; omega
   subst e;rw[tE (dM _),tu] at hl';cases hl';refine⟨j,wj,by rw[get,aL rfl],n,hj,fun n' hn'=>?_⟩
   refine Td _ ?_;have z:=f3 n' hn';cases e:ow[way m h n']? with
   | none=>
    exfalso;have:way m h n'<=m:=((Hc hi hb).iI n').le;have:=Array.getElem?_eq_none_iff.mp e;rw[W.sz] at this;omega
   | some o=>
    cases o with
    | none=>exact absurd (by rw[R_,e]; rfl) z
    | some l=>exact⟨l,rfl⟩
 ·rw[get] at hy';rw[c7];by_cases c:y=j
  ·rw[aL c] at hy'; cases hy'; simp
  ·rw[bD c] at hy'; have:=W.lt _ _ hy'; simp; omega
 ·rw[get] at h1 h2;by_cases c1:y=j
  ·rw[aL c1] at h1; cases h1;by_cases c2:y'=j
   ·rw[c1,c2]
   ·rw[bD c2] at h2; have:=W.lt _ _ h2; omega
  ·rw[bD c1] at h1;by_cases c2:y'=j
   ·rw[aL c2] at h2; cases h2; have:=W.lt _ _ h1; omega
   ·rw[bD c2] at h2; exact W.inj _ _ _ h1 h2
def wU(m:Nat)(acc:Option (Array (Option Nat)×Nat))(h:Int):Option (Array (Option Nat)×Nat):=do
  let (owner,k) <- acc
  let j <- SetTable.layClean.free m owner (turns m) (bits h % (m+1)) (bits h)
  pure (owner.setIfInBounds j (some k),k+1)
theorem Ky{k m:Nat}(hm:m+1=2 ^ k):∀(rest hs:List Int)(ow:Array (Option Nat)),OW m ow hs->(hs++rest).length<=m+1 ->
  ∃ow',rest.foldl (wU m) (some (ow,hs.length))=some (ow',(hs++rest).length)/\OW m ow' (hs++rest)
 | [],hs,ow,W,_=>⟨ow,by rw[oY]; rfl,by rw[oY]; exact W⟩
 | h::rest,hs,ow,W,hl=>by
  rw[c7,jU] at hl;obtain⟨j,f,W'⟩:=W.push hm h ∅
  obtain⟨ow',e,W''⟩:=Ky hm rest (hs++[h]) _ W' (by simp; omega)
  rw[Ax] at e W'';refine⟨ow',?_,W''⟩;rw[List.foldl_cons]
  have e1:wU m (some (ow,hs.length)) h=some (ow.setIfInBounds j (some hs.length),(hs++[h]).length):=by
   show(do let j <- SetTable.layClean.free m ow (turns m) (bits h % (m+1)) (bits h); pure (ow.setIfInBounds j (some hs.length),hs.length+1))=_
   rw[f,c7]; rfl
  rw[e1];exact e
theorem OW.nil(m:Nat):OW m (Array.replicate (m+1) none) []:=by
 have get:∀(j:Nat)(o:Option Nat),(Array.replicate (m+1) (none:Option Nat))[j]?=some o->o=none:=fun j o h=>by
  rw[Array.getElem?_replicate] at h;split at h
  ·cases h; rfl
  ·cases h
 exact⟨by simp,by simp,fun l h z=>by simp at z,fun j l h=>(by have:=get _ _ h; cases this),fun j j' l h _=>(by have:=get _ _ h; cases this)⟩
theorem Kz{k m:Nat}(hm:m+1=2 ^ k)(hs:Array Int)(hl:hs.size<=m+1):∃ow,SetTable.layClean m hs=some ow/\OW m ow hs.toList:=by
 obtain⟨ow,e,W⟩:=Ky hm hs.toList [] _ (OW.nil m) (by simpa using hl)
 refine⟨ow,?_,by simpa using W⟩
 have e2:SetTable.layClean m hs=(hs.foldl (wU m) (some (Array.replicate (m+1) none,0))).map (·.1):=rfl;rw[e2,<- Array.foldl_toList];have e3:List.foldl (wU m) (some (Array.replicate (m+1) none,0)) hs.toList=some (ow,([]++hs.toList).length):=e;rw[e3]; rfl
theorem X6{α β:Type}{f:α->Option β}:∀{l:List α}(i:Nat),(∀x∈l,(f x).isSome=true)->(l.filterMap f)[i]?=l[i]?.bind f
 | [],i,_=>by simp
 | x::l,i,h=>by
  obtain⟨y,hy⟩:=Bb.mp (h x (by simp))
  rw[List.filterMap_cons_some hy];cases i with
  | zero=>simp[hy]
  | succ i=>rw[Wf,Wf]; exact X6 i fun z hz=>h z (by simp[hz])
theorem NK{α β:Type}{f:α->Option β}:∀{l:List α},(∀x∈l,(f x).isSome=true)->(l.filterMap f).length=l.length
 | [],_=>rfl
 | x::l,h=>by
  obtain⟨y,hy⟩:=Bb.mp (h x (by simp))
  rw[List.filterMap_cons_some hy,jU,jU,NK fun z hz=>h z (by simp[hz])]
def fQ(m:Nat)(ow:Array (Option Nat)):List (Nat×Nat):=(List.range (m+1)).filterMap fun j=>(ow.getD j none).map (j,·)
theorem j6{m:Nat}{ow:Array (Option Nat)}{j l:Nat}(hs:ow.size=m+1):(j,l)∈fQ m ow↔ow[j]?=some (some l):=by
 unfold fQ;rw[List.mem_filterMap];constructor
 ·rintro⟨y,h1,h2⟩;obtain⟨l',h3,h4⟩:=kI.mp h2;cases h4;rw[R_] at h3;cases e:ow[j]? with
  | none=>rw[e] at h3; cases h3
  | some o=>rw[e] at h3; exact jF some h3
 ·intro h;have:=(Bc.mp h).1;exact⟨j,qU.mpr ∅,by rw[R_,h]; rfl⟩
theorem QK{m:Nat}{ow:Array (Option Nat)}:(fQ m ow).Pairwise fun p q=>p.1<q.1:=by
 unfold fQ;refine List.Pairwise.filterMap _ ?_ List.pairwise_lt_range;intro a a' h b hb b' hb';obtain⟨_,_,rfl⟩:=kI.mp hb;obtain⟨_,_,rfl⟩:=kI.mp hb';exact h
theorem Xf{m:Nat}{ow:Array (Option Nat)}{hs:List Int}(W:OW m ow hs):(fQ m ow).length=hs.length:=by
 unfold fQ;rw[List.length_filterMap_eq_countP,<- W.ct]
 have e:ow.toList=(List.range (m+1)).map fun j=>ow.getD j none:=by
  apply List.ext_getElem?
  intro i;rw[Jy,g_];by_cases c:i<m+1
  ·rw[List.getElem?_range c];have hb:i<ow.size:=by rw[W.sz]; exact c
   rw[Dg,R_,JC hb]; rfl
  ·rw[Mu (by simp; omega),Array.getElem?_eq_none (by rw[W.sz]; omega)]; rfl
 rw[e,List.countP_map]
 congr 1
 funext j
 simp
theorem aal{k m:Nat}(h3:3<=k)(h12:k<=12)(hm:m+1=2 ^ k){fi mo:Nat}{le pl:Bool}(hs:Array Int)(hl:5*hs.size<3*m) :
  ∃t order,SetTable.laid m fi mo le pl hs=some (t,order)/\order.toList.length=hs.size/\(∀l∈order.toList,l<hs.size)/\(∀l,l<hs.size->l∈order.toList)/\order.toList.Nodup/\Uv t (order.toList.filterMap (hs.toList[·]?)):=by
 obtain⟨ow,e,W⟩:=Kz hm hs ∅
 have e1:SetTable.laid m fi mo le pl hs=some ({ mask:=m,place:=((fQ m ow).map (·.1)).toArray,dummies:=#[],finger:=fi,led:=le,moves:=mo,plain:=pl },((fQ m ow).map (·.2)).toArray):=by
  unfold SetTable.laid;rw[e]; rfl
 have hlen:=Xf W;rw[nP] at hlen
 have lt:∀l∈(fQ m ow).map (·.2),l<hs.size:=fun l hl=>by
  obtain⟨⟨j,l'⟩,h1,h2⟩:=gW.mp hl;cases h2;have:=W.lt _ _ ((j6 W.sz).mp h1);simpa using this
 have all:∀l,l<hs.size->l∈(fQ m ow).map (·.2):=fun l hl=>by
  obtain⟨j,h1,h2,_⟩:=W.at_ l hs[l] (by simp[hl])
  exact gW.mpr ⟨(j,l),(j6 W.sz).mpr h2,rfl⟩
 have some_:∀l∈(fQ m ow).map (·.2),(hs.toList[l]?).isSome=true:=fun l hl=>by
  have:=lt l hl;rw[gm (by simpa using this)]; rfl
 have ndp:((fQ m ow).map (·.2)).Nodup:=by
  rw[List.Nodup,List.pairwise_map,Wl];intro a b ha hb hab z;have:=Wl.mp (QK (m:=m) (ow:=ow)) a b ha hb hab;have g1:ow[(fQ m ow)[a].1]?=some (some (fQ m ow)[a].2):=(j6 W.sz).mp (Gh ha);have g2:ow[(fQ m ow)[b].1]?=some (some (fQ m ow)[b].2):=(j6 W.sz).mp (Gh hb);rw[z] at g1;have:=W.inj _ _ _ g1 g2;omega
 refine⟨_,_,e1,?_,lt,all,ndp,?_⟩
 ·show((fQ m ow).map (·.2)).length=hs.size;rw[bW]; exact hlen
 ·have agx:((fQ m ow).map (·.1)).length=hs.size:=by rw[bW]; exact hlen
  have aeF:(((fQ m ow).map (·.2)).filterMap (hs.toList[·]?)).length=hs.size:=by rw[NK some_,bW]; exact hlen
  have ZS:∀i j:Nat,(((fQ m ow).map (·.1)).toArray)[i]?=some j->∃l,(fQ m ow)[i]?=some (j,l):=fun i j h=>by
   rw[R8,g_] at h;obtain⟨⟨j',l⟩,h1,h2⟩:=kI.mp h;cases h2;exact⟨l,h1⟩
  have Td:∀y,(∃l,ow[y]?=some (some l))->∃i:Nat,(((fQ m ow).map (·.1)).toArray)[i]?=some y:=fun y ⟨l,h⟩=>by
   obtain⟨i,hi⟩:=Ba.mp ((j6 W.sz).mpr h);exact⟨i,by rw[R8,g_,hi]; rfl⟩
  refine⟨rfl,?_,?_,?_,⟨k,h3,h12,hm⟩,?_,?_⟩
  ·intro a b x y ha hb hab;obtain⟨l,h1⟩:=ZS _ _ ha;obtain⟨l',h2⟩:=ZS _ _ hb;obtain⟨g1,g2⟩:=gC.mp h1;obtain⟨g3,g4⟩:=gC.mp h2;have:=Wl.mp (QK (m:=m) (ow:=ow)) a b g1 g3 hab;rw[g2,g4] at this;exact this
  ·show((fQ m ow).map (·.1)).toArray.size=_;rw[gq,agx,aeF]
  ·intro i j h;obtain⟨l,h1⟩:=ZS _ _ h;have:=(j6 W.sz).mp (jx h1);have:=(Bc.mp this).1;rw[W.sz] at this;show j<=m;omega
  ·show 5*(((fQ m ow).map (·.2)).filterMap (hs.toList[·]?)).length<3*m;rw[aeF]; exact hl
  ·intro i h j h1 h2;obtain⟨l,g1⟩:=ZS _ _ h2;have h1:(((fQ m ow).map (·.2)).filterMap (hs.toList[·]?))[i]?=some h:=h1;rw[X6 i some_,g_,g1] at h1;have h1:hs.toList[l]?=some h:=h1;obtain⟨j',f1,f2,f3⟩:=W.at_ _ _ h1;have:=W.inj _ _ _ f2 ((j6 W.sz).mp (jx g1));subst this;exact f3.mono Td
theorem Lf(n:Nat):∀(fuel k:Nat),n<2 ^ (k+fuel)->3<=k->∃k',SetTable.sizeAbove.go n fuel (2 ^ k)=2 ^ k'/\k<=k'/\n<2 ^ k'/\(k'=k\/2 ^ (k'-1)<=n)
 | 0,k,h,_=>⟨k,rfl,dM _,h,.inl rfl⟩
 | fuel+1,k,h,h3=>by
  unfold SetTable.sizeAbove.go;by_cases c:2 ^ k<=n
  ·rw[aL c,<- JH];obtain⟨k',h1,h2,h4,h5⟩:=Lf n fuel (k+1) (by rw[show k+1+fuel=k+(fuel+1) by omega]; exact h) ∅
   refine⟨k',h1,∅,h4,.inr ?_⟩
   rcases h5 with z | z
   ·rw[z]; exact c
   ·exact z
  ·rw[bD c];exact⟨k,rfl,dM _,∅,.inl rfl⟩
theorem Yv{n:Nat}(h:n<2 ^ 12):∃k,SetTable.sizeAbove n=2 ^ k/\3<=k/\k<=12/\n<2 ^ k:=by
 obtain⟨k,h1,h2,h3,h4⟩:=Lf n 64 3 (lF h (R7 ⋯ ⋯)) (dM _)
 refine⟨k,h1,h2,?_,h3⟩;rcases h4 with z | z
 ·omega
 ·have:¬12<k:=fun q=>by
   have:2 ^ 12<=2 ^ (k-1):=R7 ⋯ ∅
   omega
  omega
theorem R5{t:SetTable}(hs:Array Int)(hn:1<=hs.size)(hl:hs.size<=1000):∃t' order,t.relaid hs (SetTable.grown hs.size)=some (t',order)/\order.toList.length=hs.size/\(∀l∈order.toList,l<hs.size)/\(∀l,l<hs.size->l∈order.toList)/\order.toList.Nodup/\Uv t' (order.toList.filterMap (hs.toList[·]?))/\SetTable.sizeAbove (SetTable.grown hs.size)<=4096:=by
 have eg:SetTable.grown hs.size=hs.size*4:=by unfold SetTable.grown; rw[bD ∅]
 rw[eg];obtain⟨k,h1,h2,h3,h4⟩:=Yv (n:=hs.size*4) ∅
 unfold SetTable.relaid;rw[h1];have hp:2 ^ k-1+1=2 ^ k:=by omega
 obtain⟨t',order,g1,g2,g3,g4,g6,g5⟩:=aal (fi:=t.finger) (mo:=t.movedTo (2 ^ k-1)) (le:=t.led) (pl:=t.plain) h2 h3 hp hs ∅
 exact⟨t',order,g1,g2,g3,g4,g6,g5,(R7 (n:=2) (j:=12) ⋯ h3)⟩
end L2
namespace L2
open PySem PySem.Spec PyProof.Rows
open SetTable (Probe runEnd leap turns bits)
def Rv(prog:Program)(w:World)(d:PyData):Prop:=∀(n:Nat)(A:Around)(E:Value->Shared->Prop)(s:Shared)(v:Value)(as:List Addr)(Q:Bool->Shared->Prop),Reads s.heap v d as->d.depth<=n->Q false s ->
 wpAny (model prog w) A (ofAClassStatement n v) Q E s
theorem aaB{prog:Program}{w:World}{ds:List PyData}(ih:∀d∈ds,Rv prog w d):Rv prog w (.tuple ds):=by
 intro n A E s v as Q r hn h;have hn:PyData.depthAll ds+1<=n:=hn;obtain⟨m,rfl⟩:∃m,n=m+1:=⟨n-1,∅⟩
 cases r with
 | @tuple a o items nn _ _ ho hc hd hi=>
 have hT:s.TypeIs (.ref a) "tuple" := ⟨o,ho,hc⟩;unfold ofAClassStatement;refine aY (CZ hT ?_);dsimp only;refine aY ?_;refine b_ ?_;simp only[yr,jM,if_false];refine aY (qX ho hd ?_);refine aY ?_;show wpAny _ _ (forIn items _ _) _ _ s;rw[<- Qf];refine JS _ (fun rest r s'=>r.1=none/\s'=s/\∃left bs,(∀d∈left,d∈ds)/\ReadsAll s.heap rest left bs) _ ?_ ?_ _ _ ⟨rfl,rfl,ds,_,fun d h=>h,hi⟩
 ·rintro v rest r s' ⟨hr,rfl,left,bs,hall,hl⟩;cases hl with
  | @cons _ _ k ks' as1 bs1 h1 hl'=>
  have hk:=hall k jw;have:=mF hk;refine aY (ih k hk m _ _ _ _ _ _ h1 ∅ ?_)
  simp only[jM,if_false];exact b_ ⟨rfl,rfl,ks',bs1,fun d h=>hall d (iR _ h),hl'⟩
 ·rintro⟨r1,r2⟩ s' ⟨hr,rfl,_⟩;simp only at hr;subst hr;exact b_ h
mutual
theorem KQ{prog:Program}{w:World}:∀d:PyData,rm d=true->Rv prog w d
 | .int i,_=>by
  intro n A E s v as Q r hu h;cases r;cases n <;> exact b_ h
 | .tuple ds,h=>aaB (Ec ds (by simpa[rm] using h))
 | .none,h=>nomatch h
 | .bool _,h=>nomatch h
 | .str _,h=>nomatch h
 | .list _,h=>nomatch h
 | .dict _,h=>nomatch h
theorem Ec{prog:Program}{w:World}:∀ds:List PyData,gM ds=true->∀d∈ds,Rv prog w d
 | [],_,d,hd=>by cases hd
 | x::ds,h,d,hd=>by
  have h':rm x=true/\gM ds=true:=by simpa[gM] using h
  rcases bT.mp hd with e | e
  ·rw[e]; exact KQ x h'.1
  ·exact Ec ds h'.2 d e
end
section
variable{prog:Program}{w:World}{A:Around}{E:Value->Shared->Prop}{s:Shared}
theorem nest_cls{d:PyData}{b:Addr}(h:(bL prog w).is s.heap d b){Q:Bool->Shared->Prop}(q:Q false s):wpAny (model prog w) A (ofAClassStatement 8 (.ref b)) Q E s:=by
 obtain⟨g,dp,as,r⟩:=h;exact KQ d g 8 _ _ _ _ _ _ r dp q
theorem Zb{d:PyData}{b:Addr}(hb:(bL prog w).is s.heap d b){ys:List Value}(hy:∀y∈ys,∃e c,y=Value.ref c/\(bL prog w).is s.heap e c){Q:Bool->Shared->Prop}(q:Q false s) :
  wpAny (model prog w) A (searchCouldBeSeen (.ref b) ys) Q E s:=by
 unfold searchCouldBeSeen;refine aY ?_;refine JS _ (fun rest r s'=>r.1=none/\s'=s/\∀y∈rest,y∈ys) _ ?_ ?_ _ _ ⟨rfl,rfl,fun y h=>h⟩
 ·rintro v rest r s' ⟨hr,rfl,hall⟩;obtain⟨e,c,rfl,hc⟩:=hy v (hall v jw);dsimp only;by_cases z:(b==c)=true
  ·rw[aL (by rw[z]; rfl)]
   exact b_ ⟨rfl,rfl,fun y h=>hall y (iR _ h)⟩
  ·rw[bD (by simp only[Bool.not_eq_true] at z; rw[z]; exact mj)]
   try refine aY (b_ ?_)
   refine aY ((bL prog w).quiet hb ?_);simp only[yr,jM,if_false]
   try refine aY (b_ ?_)
   refine aY ((bL prog w).quiet hc ?_);simp only[yr,jM,if_false]
   try refine aY (b_ ?_)
   refine aY (nest_cls hb ?_);simp only[jM,if_false]
   try refine aY (b_ ?_)
   refine aY (nest_cls hc ?_);simp only[jM,if_false]
   try refine aY (b_ ?_)
   exact b_ ⟨rfl,rfl,fun y h=>hall y (iR _ h)⟩
 ·rintro⟨r1,r2⟩ s' ⟨hr,rfl,_⟩;simp only at hr;subst hr;exact b_ q
def skE(x:PyData×Addr):Int×Value:=(bN x.1,.ref x.2)
structure U9(h:Heap)(a:Addr)(o:Obj)(es:Array (Int×Value))(ep:Nat)(t:SetTable)(xs:List (PyData×Addr)):Prop where
 get:h.get? a=some o
 ex:o.ExactSet
 dt:o.data=.set es ep t
 es:es.toList=xs.map skE
 ti:Uv t (xs.map fun x=>bN x.1)
 nd:(xs.map (·.1)).Nodup
theorem U9.size{h:Heap}{a:Addr}{o:Obj}{es:Array (Int×Value)}{ep:Nat}{t:SetTable}{xs:List (PyData×Addr)}(S:U9 h a o es ep t xs):es.size=xs.length:=by
 rw[<- nP,S.es,bW]
theorem U9.fits{h:Heap}{a:Addr}{o:Obj}{es:Array (Int×Value)}{ep:Nat}{t:SetTable}{xs:List (PyData×Addr)}(S:U9 h a o es ep t xs):t.fits es.size=true:=by
 have:=S.ti.fits;rw[bW] at this;rw[S.size]; exact this
theorem U9.at{h:Heap}{a:Addr}{o:Obj}{es:Array (Int×Value)}{ep:Nat}{t:SetTable}{xs:List (PyData×Addr)}(S:U9 h a o es ep t xs)(i:Nat):es[i]?=xs[i]?.map skE:=by
 rw[<- Jy,S.es,g_]
theorem wW(m:Nat)(h:Int)(n n':Nat):(iI m n' (iI m n (jmp m (bits h % (m+1)) (bits h)))).j=way m h (n+n'):=by unfold way; rw[m8]
theorem BW{a:Addr}{o:Obj}{es:Array (Int×Value)}{ep:Nat}{t:SetTable}{xs:List (PyData×Addr)}{d:PyData}{b:Addr}{adding:Bool}(hr:(bL prog w).room A)(S:U9 s.heap a o es ep t xs)(hk:∀x∈xs,(bL prog w).is s.heap x.1 x.2)(hb:(bL prog w).is s.heap d b){Q:SetFound->Shared->Prop}
  (h1:d∈xs.map (·.1)->∀r:Option Nat,(adding=false->r.isSome=true)->Q (.there r) s)
  (h2:d∉xs.map (·.1)->∀j,j<=t.mask->(∀i:Nat,t.place[i]?≠some j)->Path t.mask (fun y=>∃i:Nat,t.place[i]?=some y) (bN d) j->Q (.free j false) s) :
  wpAny (model prog w) A (setSearch a (.ref b) (bN d) adding) Q E s:=by
 have T:=S.ti;obtain⟨M,m1,m2,m3,m4⟩:=T.first (xF t (bN d));rw[Ci] at m2 m3 m4;have m2:∀n,n<M->∃i:Nat,t.place[i]?=some (way t.mask (bN d) n)/\t.slot (way t.mask (bN d) n)=.live i:=m2;have m3:∀i:Nat,t.place[i]?≠some (way t.mask (bN d) M):=m3;have m4:t.slot (way t.mask (bN d) M)=.empty:=m4
 have hM:M<50000:=by
  obtain⟨k,_,k2,k3⟩:=T.pw;have:2 ^ k<=2 ^ 12:=R7 ⋯ k2
  unfold turns at m1;omega
 have key:∀(fuel n:Nat)(stand:Option Probe),n<=M->M-n<fuel->stand.getD (t.probeStart (bN d))=iI t.mask n (jmp t.mask (bits (bN d) % (t.mask+1)) (bits (bN d))) ->
   (∀(n' i:Nat),n'<n->t.place[i]?=some (way t.mask (bN d) n')->∀x:PyData×Addr,xs[i]?=some x->x.1≠d)->wpAny (model prog w) A (setSearchFrom a (.ref b) (bN d) adding fuel stand) Q E s:=by
  intro fuel
  induction fuel with
  | zero=>intro n stand _ h; omega
  | succ fuel ih=>
   intro n stand hn hf est abt;unfold setSearchFrom;refine aY (Dn S.get S.dt S.fits ?_);dsimp only;rw[T.odd];simp only[jM,if_false];rw[est];obtain⟨n1,q1,q2,q3⟩:=Kv (P:=fun c=>M<=n+c\/∃i:Nat,t.place[i]?=some (way t.mask (bN d) (n+c))/\∃x,xs[i]?=some x/\bN x.1=bN d) (M-n) (.inl ∅)
   have wp:WP t.mask (iI t.mask n (jmp t.mask (bits (bN d) % (t.mask+1)) (bits (bN d)))):=by rw[<- Ci]; exact(xF t (bN d)).iI n
   have live:∀n',n'<n1->∃i,t.slot (iI t.mask n' (iI t.mask n (jmp t.mask (bits (bN d) % (t.mask+1)) (bits (bN d))))).j=.live i/\(((es[i]?.map (·.1)).getD 0)==bN d)=false:=fun n' hn'=>by
    have:=q3 n' hn'
    have hlt:n+n'<M:=by
     rcases Nat.lt_or_ge (n+n') M with z | z
     ·exact z
     ·exact absurd (.inl z) this
    obtain⟨i,i1,i2⟩:=m2 _ hlt;refine⟨i,by rw[wW]; exact i2,?_⟩
    have hil:i<xs.length:=by
     have:=(Bc.mp i1).1;rw[T.sz,bW] at this;exact this
    rw[S.at,gm hil];show(bN xs[i].1==bN d)=false;rw[beq_eq_false_iff_ne];intro z;exact this (.inr ⟨i,i1,xs[i],gm hil,z⟩)
   by_cases c:M<=n+n1
   ·have eM:n+n1=M:=by omega
    have he:t.slot (iI t.mask n1 (iI t.mask n (jmp t.mask (bits (bN d) % (t.mask+1)) (bits (bN d))))).j=.empty:=by rw[wW,eM]; exact m4
    erw [J7 (hashAt:=fun i=>(es[i]?.map (·.1)).getD 0) wp ∅ live he]
    dsimp only;rw[wW,eM];refine b_ (h2 ?_ _ ?_ m3 ⟨M,rfl,fun n' hn'=>let ⟨i,z,_⟩:=m2 n' hn'; ⟨i,z⟩⟩)
    ·intro hd;obtain⟨x,hx,rfl⟩:=gW.mp hd;obtain⟨i,hi⟩:=Ba.mp hx;have hil:i<xs.length:=(gC.mp hi).1;have hip:i<t.place.size:=by rw[T.sz,bW]; exact hil
     have ep:=JC hip;obtain⟨ni,e1,e2⟩:=T.pa i (bN x.1) _ (by rw[g_,hi]; rfl) ep
     have hlt:ni<M:=by
      rcases Dm ni M with z | z | z
      ·exact z
      ·exact absurd (by rw[<- z,e1]; exact ep) (m3 i)
      ·obtain⟨i',z'⟩:=e2 M z; exact absurd z' (m3 i')
     rw[<- e1] at ep;by_cases d1:ni<n
     ·exact abt ni i d1 ep x hi rfl
     ·refine q3 (ni-n) ∅ (.inr ⟨i,by rw[show n+(ni-n)=ni by omega]; exact ep,x,hi,rfl⟩)
    ·have:=((xF t (bN d)).iI M).le;exact this
   ·rcases q2 with z | ⟨i,i1,x,i2,i3⟩
    ·exact absurd z c
    ·have i4:=Cj T.ri i1;have hc:t.slot (iI t.mask n1 (iI t.mask n (jmp t.mask (bits (bN d) % (t.mask+1)) (bits (bN d))))).j=.live i:=by rw[wW]; exact i4
     have hh:(fun i=>(es[i]?.map (·.1)).getD 0) i=bN d:=by
      show(es[i]?.map (·.1)).getD 0=bN d;rw[S.at,i2]; exact i3
     erw [Mw (hashAt:=fun i=>(es[i]?.map (·.1)).getD 0) ∅ live hc hh]
     dsimp only;have hx:=jx i2;have ei:es[i]?=some (bN x.1,Value.ref x.2):=by rw[S.at,i2]; rfl
     have tail:wpAny (model prog w) A (do
       let some (_,y):=es[i]? | unsupported "internal:set-entry"
       let equal <- holding [y] (eqBool y (.ref b))
       let (es',_,t') <- setState a
       if adding&&equal then return .there none
       let some same:=t'.sameMemory t.moves t.mask | unsupported "set.changed-during-lookup:is-the-new-block-at-the-old-address"
       let still <- match (if same then t'.slot (iI t.mask n1 (iI t.mask n (jmp t.mask (bits (bN d) % (t.mask+1)) (bits (bN d))))).j else .empty) with
        | .live i'=>match es'[i']? with
         | some (_,y')=>do pure (if <- isSame y' y then some i' else none)
         | none=>pure none
        | _=>pure none
       match still with
       | none=>rule "set.search.anew"; setSearchFrom a (.ref b) (bN d) adding fuel none
       | some i'=>if equal then return .there (some i') else setSearchFrom a (.ref b) (bN d) adding fuel (some (iI t.mask (n1+1) (iI t.mask n (jmp t.mask (bits (bN d) % (t.mask+1)) (bits (bN d))))))) Q E s:=by
      rw[ei];dsimp only;refine aY (nO ((bL prog w).eqBool hr (hk x hx) hb ?_));refine aY (Dn S.get S.dt S.fits ?_);dsimp only;have sm:t.sameMemory t.moves t.mask=some true:=by unfold SetTable.sameMemory; simp
      rw[sm,hc];dsimp only;simp only[if_true];rw[ei];dsimp only
      have isS:∀{Q':Bool->Shared->Prop},Q' true s->wpAny (model prog w) A (isSame (Value.ref x.2) (Value.ref x.2)) Q' E s:=fun h=>by
       unfold isSame;simp only[beq_self_eq_true,if_true];exact b_ h
      by_cases e:x.1=d
      ·rw[ju e];have hm:d∈xs.map (·.1):=e▸List.mem_map_of_mem hx;cases adding with
       | true=>
        simp only[Bool.and_self,if_true];exact b_ (h1 hm none (fun z=>nomatch z))
       | false=>
        simp only[Bool.false_and,jM,if_false];refine aY (isS (aY (b_ ?_)));simp only[if_true];exact b_ (h1 hm _ fun _=>rfl)
      ·rw[jL e];simp only[Bool.and_false,jM,if_false];refine aY (isS (aY (b_ ?_)));simp only[if_true,jM,if_false];refine ih (n+n1+1) _ ∅ ∅ ?_ ?_
       ·show iI t.mask (n1+1) _=_;rw[<- m8,vM]
       ·intro n' i' hn' hi' x' hx';by_cases c1:n'<n
        ·exact abt n' i' c1 hi' x' hx'
        ·by_cases c2:n'=n+n1
         ·subst c2;have:=T.ri.inj hi' i1;subst this;rw[i2] at hx'; cases hx';exact e
         ·intro z;exact q3 (n'-n) ∅ (.inr ⟨i',by rw[show n+(n'-n)=n' by omega]; exact hi',x',hx',by rw[z]⟩)
     by_cases acN:t.led=true
     ·rw[acN];simp only[yr,jM,if_false];exact tail
     ·simp only[Bool.not_eq_true] at acN;rw[acN];simp only[Bool.not_false,if_true];refine aY (Zb hb (fun y hy=>?_) ?_)
      ·obtain⟨e,he,rfl⟩:=gW.mp hy;rw[Array.mem_toList_iff] at he;have he:=(Array.mem_filter.mp he).1;rw[<- Array.mem_toList_iff,S.es] at he;obtain⟨x',hx',rfl⟩:=gW.mp he;exact⟨x'.1,x'.2,rfl,hk x' hx'⟩
      ·simp only[jM,if_false]
       first | exact tail | exact aY (b_ tail)
 unfold setSearch;exact key 100000 0 none (fG _) ∅ rfl (fun n' i h=>by omega)
end
end L2
namespace L2
open PySem PySem.Spec PyProof.Rows
open SetTable (Probe runEnd leap turns bits)
section
variable{prog:Program}{w:World}{A:Around}{E:Value->Shared->Prop}{s:Shared}
theorem Zc{a:Addr}{o:Obj}{es:Array (Int×Value)}{ep:Nat}{t:SetTable}{xs:List (PyData×Addr)}{d:PyData}{b:Addr}(hr:(bL prog w).room A)(S:U9 s.heap a o es ep t xs)(hk:∀x∈xs,(bL prog w).is s.heap x.1 x.2)(hb:(bL prog w).is s.heap d b){Q:Option Nat->Shared->Prop}
  (h:∀r:Option Nat,(r.isSome=true↔d∈xs.map (·.1))->Q r s):wpAny (model prog w) A (setFind a (.ref b) (bN d)) Q E s:=by
 unfold setFind setFindIn;refine aY (Dn S.get S.dt S.fits ?_);dsimp only;have bs:byScan (.ref b) es=false:=rfl;rw[bs];simp only[jM,if_false];refine aY (BW hr S hk hb (fun hd r hr'=>?_) (fun hd j _ _ _=>?_))
 ·exact b_ (h r ⟨fun _=>hd,fun _=>hr' rfl⟩)
 ·exact b_ (h none ⟨fun z=>(nomatch z),fun z=>absurd z hd⟩)
def Ru(prog:Program)(w:World)(d:PyData):Prop:=∀(n:Nat)(A:Around)(E:Value->Shared->Prop)(s:Shared)(v:Value)(as:List Addr)(Q:Bool->Shared->Prop),Reads s.heap v d as->d.depth<=n->Q true s ->
 wpAny (model prog w) A (hashByValue n v) Q E s
theorem aas{ds:List PyData}(ih:∀d∈ds,Ru prog w d):Ru prog w (.tuple ds):=by
 intro n A E s v as Q r hn h;have hn:PyData.depthAll ds+1<=n:=hn;obtain⟨m,rfl⟩:∃m,n=m+1:=⟨n-1,∅⟩
 cases r with
 | @tuple a o items nn _ _ ho hc hd hi=>
 have hT:s.TypeIs (.ref a) "tuple" := ⟨o,ho,hc⟩;unfold hashByValue;refine aY (Di hT F.slot_tuple_hash.lookup ?_);show wpAny _ _ (seqItems? (.ref a) >>= _) _ _ s;refine aY (qX ho hd ?_);refine aY ?_;show wpAny _ _ (forIn items _ _) _ _ s;rw[<- Qf];refine JS _ (fun rest r s'=>r.1=none/\s'=s/\∃left bs,(∀d∈left,d∈ds)/\ReadsAll s.heap rest left bs) _ ?_ ?_ _ _ ⟨rfl,rfl,ds,_,fun d h=>h,hi⟩
 ·rintro v rest r s' ⟨hr,rfl,left,bs,hall,hl⟩;cases hl with
  | @cons _ _ k ks' as1 bs1 h1 hl'=>
  have hk:=hall k jw;have:=mF hk;refine aY (ih k hk m _ _ _ _ _ _ h1 ∅ ?_)
  simp only[yr,jM,if_false];exact b_ ⟨rfl,rfl,ks',bs1,fun d h=>hall d (iR _ h),hl'⟩
 ·rintro⟨r1,r2⟩ s' ⟨hr,rfl,_⟩;simp only at hr;subst hr;exact b_ h
mutual
theorem KD:∀d:PyData,rm d=true->Ru prog w d
 | .int i,_=>by
  intro n A E s v as Q r hu h;cases r;cases n <;> exact b_ h
 | .tuple ds,h=>aas (DW ds (by simpa[rm] using h))
 | .none,h=>nomatch h
 | .bool _,h=>nomatch h
 | .str _,h=>nomatch h
 | .list _,h=>nomatch h
 | .dict _,h=>nomatch h
theorem DW:∀ds:List PyData,gM ds=true->∀d∈ds,Ru prog w d
 | [],_,d,hd=>by cases hd
 | x::ds,h,d,hd=>by
  have h':rm x=true/\gM ds=true:=by simpa[gM] using h
  rcases bT.mp hd with e | e
  ·rw[e]; exact KD x h'.1
  ·exact DW ds h'.2 d e
end
theorem ins_map{α β:Type}(f:α->β)(xs:List α)(p:Nat)(x:α):(xs.take p++x::xs.drop p).map f=(xs.map f).take p++f x::(xs.map f).drop p:=by
 rw[iZ,oX,C_,List.map_drop]
theorem T4{α:Type}{xs:List α}{p:Nat}{x:α}(h:xs.Nodup)(hx:x∉xs):(xs.take p++x::xs.drop p).Nodup:=by
 have e:(xs.take p++x::xs.drop p).Perm (x::xs):=by
  refine List.perm_middle.trans ?_;rw[Qj]
 exact e.nodup_iff.mpr (vX.mpr ⟨hx,h⟩)
theorem WN{xs:List (PyData×Addr)}{order:List Nat}(nd:order.Nodup)(hl:order.length=xs.length)(lt:∀l∈order,l<xs.length)(all:∀l,l<xs.length->l∈order) :
  ∃ys:List (PyData×Addr),(∀f:(PyData×Addr)->Int×Value,order.filterMap ((xs.map f)[·]?)=ys.map f)/\(∀f:(PyData×Addr)->Int,order.filterMap ((xs.map f)[·]?)=ys.map f)/\ys.length=xs.length/\ys.Perm xs:=by
 have sm:∀l∈order,(xs[l]?).isSome=true:=fun l h=>by rw[gm (lt l h)]; rfl
 have e:∀{γ:Type} (f:(PyData×Addr)->γ),order.filterMap ((xs.map f)[·]?)=(order.filterMap (xs[·]?)).map f:=fun f=>by
  rw[List.map_filterMap]
  congr 1
  funext l
  rw[g_]
 have hp:order.Perm (List.range xs.length):=by
  refine(List.perm_ext_iff_of_nodup nd List.nodup_range).mpr fun l=>?_;rw[qU];exact⟨lt l,all l⟩
 refine⟨order.filterMap (xs[·]?),e,e,by rw[NK sm,hl],?_⟩
 have:=hp.filterMap (xs[·]?);rw[List.filterMap_getElem?_range_length] at this;exact this
theorem Vh{a:Addr}{o:Obj}{es:Array (Int×Value)}{ep:Nat}{t:SetTable}{xs:List (PyData×Addr)}(ho:s.heap.get? a=some o)(hx:o.ExactSet)(hd:o.data=.set es ep t)(hes:es.toList=xs.map skE)(hf:t.fits es.size=true)(nd:(xs.map (·.1)).Nodup)(h1:1<=xs.length)(h2:xs.length<=1000){Q:Unit->Shared->Prop}
  (q:∀h' o' es' ep' t' ys,Heap.SameBut a s.heap h'->U9 h' a o' es' ep' t' ys->ys.Perm xs->Q () { s with heap:=h' }):wpAny (model prog w) A (setRelay a (SetTable.grown xs.length)) Q E s:=by
 have sz:es.size=xs.length:=by rw[<- nP,hes,bW]
 have hsz:(es.map (·.1)).size=xs.length:=by rw[Array.size_map,sz]
 have hl:(es.map (·.1)).toList=xs.map fun x=>bN x.1:=by rw[Array.toList_map,hes,CQ]; rfl
 obtain⟨t',order,g1,g2,g3,g4,g6,g5,g7⟩:=R5 (t:=t) (es.map (·.1)) ∅ ∅
 rw[hsz] at g1 g2 g3 g4 g7;obtain⟨ys,y1,y2,y3,y4⟩:=WN g6 g2 g3 g4;unfold setRelay;refine aY (Dn ho hd hf ?_);dsimp only;have zl:(4096:Nat)<=sizeLine:=by rw[sizeLine_eq]; decide
 rw[bD ∅]
 have e1:(order.filterMap (es[·]?)).toList=ys.map skE:=by
  rw[Array.toList_filterMap,<- y1 skE]
  congr 1
  funext l
  rw[<- hes,Jy]
 have tail:wpAny (model prog w) A (storeSet a (order.filterMap (es[·]?)) t') Q E s:=by
  have hz:(order.filterMap (es[·]?)).size<=sizeLine:=by
   rw[<- nP,e1,bW,y3]; omega
  refine wpAny_storeSet_of ho hd ?_ hz
  have hg:(s.heap.update a (Obj.putSet (order.filterMap (es[·]?)) t')).get? a=some { o with data:=.set (order.filterMap (es[·]?)) (ep+1) t' }:=by
   have:=A_ (Obj.putSet (order.filterMap (es[·]?)) t') ho (by rw[putSet_of _ t' hd]; rfl)
   rw[putSet_of _ t' hd] at this; exact this
  refine q _ _ _ _ t' ys (Qg s.heap a _) ⟨hg,hx,rfl,e1,?_,?_⟩ y4
  ·rw[hl,y2 fun x=>bN x.1] at g5;exact g5
  ·exact(y4.map _).nodup_iff.mpr nd
 have es2:(order.filterMap (es[·]?)).size=es.size:=by rw[<- nP,e1,bW,y3,sz]
 rw[g1];refine aY ?_;show wpAny _ _ (if((order.filterMap (es[·]?)).size != es.size)=true then(unsupported "internal:set-table-lost-an-element" >>= fun _=>pure (order.filterMap (es[·]?),t')) else pure (order.filterMap (es[·]?),t')) _ _ _
 rw[bD (by rw[es2]; simp)]
 exact b_ tail
theorem TbJ.fits{t:SetTable}{hs:List Int}(T:TbJ t hs):t.fits hs.length=true:=by
 have h1:=T.sz;have h2:=T.fl;simp only[SetTable.fits,SetTable.fill,T.dm,h1,Gg,beq_iff_eq,decide_eq_true_eq];refine⟨trivial,?_⟩;show hs.length+0<=t.mask;omega
theorem abQ{a:Addr}{o:Obj}{es:Array (Int×Value)}{ep:Nat}{t:SetTable}{xs:List (PyData×Addr)}{d:PyData}{b:Addr}(hr:(bL prog w).room A)(S:U9 s.heap a o es ep t xs)(hk:∀x∈xs,(bL prog w).is s.heap x.1 x.2)(hb:(bL prog w).is s.heap d b)(hl:xs.length<1000){Q:Bool->Shared->Prop}
  (q:∀r h' o' es' ep' t' ys,Heap.SameBut a s.heap h'->U9 h' a o' es' ep' t' ys->(d∈xs.map (·.1)/\ys=xs\/d∉xs.map (·.1)/\ys.Perm ((d,b)::xs))->Q r { s with heap:=h' }) :
  wpAny (model prog w) A (setAddHashed a (.ref b) (bN d)) Q E s:=by
 unfold setAddHashed setAddHashedIn;refine nO (aY (Dn S.get S.dt S.fits ?_));dsimp only;have bs:byScan (.ref b) es=false:=rfl;rw[bs];simp only[jM,if_false];refine aY (BW hr S hk hb (fun hd r _=>?_) (fun hd j hj hn hp=>?_))
 ·have e:s={ s with heap:=s.heap }:=by cases s; rfl
  have:=q false s.heap o es ep t xs (Heap.SameBut.refl a s.heap) S (.inl ⟨hd,rfl⟩);exact b_ (by rw[e]; exact this)
 ·dsimp only;refine aY (Dn S.get S.dt S.fits ?_);dsimp only;obtain⟨J,p1,p2,p3⟩:=S.ti.put hj hn hp;generalize (t.put j).1=t1 at J p2 p3 ⊢;generalize (t.put j).2=pp at J p1 ⊢;rw[bW] at p1
  have tail:wpAny (model prog w) A (storeSet a (SetTable.insertAt es pp (bN d,.ref b)) t1 >>= fun _=>if(!false&&t1.tooFull)=true then(setRelay a (SetTable.grown (es.size+1)) >>= fun _=>pure true) else pure true) Q E s:=by
   have eL:(SetTable.insertAt es pp (bN d,Value.ref b)).toList=(xs.take pp++(d,b)::xs.drop pp).map skE:=by
    rw[SetTable.toList_insertAt,S.es,ins_map]; rfl
   have hn':(xs.take pp++(d,b)::xs.drop pp).length=xs.length+1:=by
    simp only[c7,jV,jU,yz]; omega
   have hz:(SetTable.insertAt es pp (bN d,Value.ref b)).size<=sizeLine:=by
    have zl:(4096:Nat)<=sizeLine:=by rw[sizeLine_eq]; decide
    rw[<- nP,eL,bW,hn']; omega
   refine aY (wpAny_storeSet_of S.get S.dt ?_ hz)
   have hg:(s.heap.update a (Obj.putSet (SetTable.insertAt es pp (bN d,Value.ref b)) t1)).get? a=some { o with data:=.set (SetTable.insertAt es pp (bN d,Value.ref b)) (ep+1) t1 }:=by
    have:=A_ (Obj.putSet (SetTable.insertAt es pp (bN d,Value.ref b)) t1) S.get (by rw[putSet_of _ t1 S.dt]; rfl)
    rw[putSet_of _ t1 S.dt] at this; exact this
   have sb:=Qg s.heap a (Obj.putSet (SetTable.insertAt es pp (bN d,Value.ref b)) t1);generalize s.heap.update a (Obj.putSet (SetTable.insertAt es pp (bN d,Value.ref b)) t1)=h1 at hg sb ⊢;have J':TbJ t1 ((xs.take pp++(d,b)::xs.drop pp).map fun x=>bN x.1):=by rw[ins_map]; exact J
   have nd':((xs.take pp++(d,b)::xs.drop pp).map (·.1)).Nodup:=by rw[ins_map]; exact T4 S.nd hd
   have pm:(xs.take pp++(d,b)::xs.drop pp).Perm ((d,b)::xs):=by
    refine List.perm_middle.trans ?_;rw[Qj]
   cases ef:t1.tooFull with
   | false=>
    simp only[Bool.not_false,Bool.and_false,jM,if_false];exact b_ (q true h1 _ _ _ _ _ sb ⟨hg,S.ex,rfl,eL,J'.ti ef,nd'⟩ (.inr ⟨hd,pm⟩))
   | true=>
    simp only[Bool.not_false,Bool.and_self,if_true];have esz:es.size+1=(xs.take pp++(d,b)::xs.drop pp).length:=by rw[hn',S.size]
    rw[esz];refine aY (Vh (s:={ s with heap:=h1 }) hg S.ex rfl eL ?_ nd' ∅ ∅ fun h' o' es' ep' t' ys sb' S' py=>?_)
    ·have:=J'.fits;rw[bW] at this;rw[<- nP,eL,bW];exact this
    ·exact b_ (q true h' _ _ _ _ ys (sb.trans sb') S' (.inr ⟨hd,py.trans pm⟩))
  cases epl:t1.plain with
  | false=>
   simp only[jM,if_false];refine aY (b_ ?_);simp only[if_true];exact tail
  | true=>
   simp only[if_true];obtain⟨g,dp,as,r⟩:=hb;refine aY (KD d g 8 _ _ _ _ _ _ r dp ?_);simp only[if_true];exact tail
end
def SkP(a:Addr)(xs:List (PyData×Addr))(h:Heap):Prop:=∃o es ep t,U9 h a o es ep t xs
def SkO(a:Addr)(xs:List (PyData×Addr)):HO:=.ext (SkP a xs)
def jb(H:Hp)(a:Addr)(ks:List PyData):Prop:=∃xs,H a=some (SkO a xs)/\(∀d,d∈ks↔d∈xs.map (·.1))/\(∀x∈xs,qK x.1/\At H x.1 (.ref x.2))/\xs.length<=ks.length
theorem jb.keep{H H':Hp}{a:Addr}{ks:List PyData}(n:jb H a ks)(ha:H' a=H a)(k:∀b xs,H b=some (.tup xs)->H' b=some (.tup xs)):jb H' a ks:=by
 obtain⟨xs,e,m,r,l⟩:=n;exact⟨xs,ha.trans e,m,fun x hx=>⟨(r x hx).1,At.tupS k _ _ (lH _ (r x hx).1.k).2.2 (r x hx).2⟩,l⟩
theorem jb.same{H H':Hp}{a:Addr}{ks:List PyData}(n:jb H a ks)(s:aF H H'):jb H' a ks:=by
 obtain⟨xs,e,r⟩:=id n;exact n.keep ((s _ _ e).trans e.symm) fun b xs h=>s _ _ h
theorem jb.ext{H:Hp}{a:Addr}{ks:List PyData}(n:jb H a ks):∃φ,H a=some (.ext φ):=by
 obtain⟨xs,e,_⟩:=n;exact⟨_,e⟩
theorem jb.Zf{H:Hp}{a p:Addr}{ks:List PyData}{ys:List V}{o:HO}(n:jb H a ks)(hp:H p=some (.lst ys)):jb (upd H p o) a ks:=by
 obtain⟨φ,e⟩:=n.ext;have na:a≠p:=fun z=>by rw[z,hp] at e; cases e
 refine n.keep (aP na) fun b xs h=>?_;have nb:b≠p:=fun z=>by rw[z,hp] at h; cases h
 rw[aP nb]; exact h
section
variable{X:Cx}{ae:List (Addr×Obj)}{σ:St}{H:Hp}{s:Shared}{a:Addr}{ks:List PyData}
theorem aa7{P:Program}{w:World}{H:Hp}{h:Heap}{xs:List (PyData×Addr)}(n:SkP a xs h):cH P w H h a (SkO a xs):=by
 obtain⟨o,es,ep,t,S⟩:=n;exact⟨⟨o,es,ep,t,S⟩,⟨o,S.get⟩,fun h1' h2' ⟨o',es',ep',t',S'⟩ k=>⟨o',es',ep',t',k _ S'.get,S'.ex,S'.dt,S'.es,S'.ti,S'.nd⟩⟩
theorem V5(I:Inv X ae σ H s)(n:jb H a ks):∃xs,H a=some (SkO a xs)/\(∀d,d∈ks↔d∈xs.map (·.1))/\(∀x∈xs,qK x.1/\At H x.1 (.ref x.2))/\xs.length<=ks.length/\SkP a xs s.heap/\∀x∈xs,(bL X.prog X.w).is s.heap x.1 x.2:=by
 obtain⟨xs,e,m,r,l⟩:=n;obtain⟨p,_,_⟩:=(show cH X.prog X.w H s.heap a (SkO a xs) from I.hok a _ e);exact⟨xs,e,m,r,l,p,fun x hx=>vO I.hok (r x hx).1 (r x hx).2⟩
def iG(H:Hp)(a:Addr)(ks:List PyData)(d:PyData)(H':Hp):Prop:=(∃φ,H'=upd H a (.ext φ))/\jb H' a (ks++[d])
theorem iG.tup{H H':Hp}{a:Addr}{ks:List PyData}{d:PyData}(n:jb H a ks)(p:iG H a ks d H'):∀b xs,H b=some (.tup xs)->H' b=some (.tup xs):=fun b xs h=>by
 obtain⟨⟨φ,rfl⟩,_⟩:=p;obtain⟨ψ,e⟩:=n.ext;have nb:b≠a:=fun z=>by rw[z,e] at h; cases h
 rw[aP nb]; exact h
theorem iG.lst{H H':Hp}{a:Addr}{ks:List PyData}{d:PyData}(n:jb H a ks)(p:iG H a ks d H'):∀b xs,H b=some (.lst xs)->H' b=some (.lst xs):=fun b xs h=>by
 obtain⟨⟨φ,rfl⟩,_⟩:=p;obtain⟨ψ,e⟩:=n.ext;have nb:b≠a:=fun z=>by rw[z,e] at h; cases h
 rw[aP nb]; exact h
theorem iG.at{H H':Hp}{a:Addr}{ks:List PyData}{d e:PyData}{u:V}(n:jb H a ks)(p:iG H a ks d H')(h:kE e=true)(x:At H e u):At H' e u:=At.tupS (iG.tup n p) _ _ h x
theorem iG.same{H H':Hp}{a:Addr}{ks:List PyData}{d:PyData}{H0:Hp}(p:iG H a ks d H')(s:aF H0 H)(f:H0 a=none):aF H0 H':=by
 obtain⟨⟨φ,rfl⟩,_⟩:=p;exact s.kY f
theorem uD(I:Inv X ae σ H s)(n:jb H a ks):s.TypeIs (.ref a) "set" /\ ∀b,Value.ref a=.ref b->∃ob,s.heap.get? b=some ob/\ob.dict=none:=by
 obtain⟨xs,e,m,r,l,⟨o,es,ep,t,S⟩,_⟩:=V5 I n;exact⟨⟨o,S.get,S.ex.1⟩,fun b z=>by cases z; exact⟨o,S.get,S.ex.2.1⟩⟩
theorem Zn{A:Around}{E:Value->Shared->Prop}{b:Addr}{d:PyData}{Q:Option Nat->Shared->Prop}(hu:(bL X.prog X.w).room A)(I:Inv X ae σ H s)(n:jb H a ks)(ky:mJ H d (.ref b))(h:∀r:Option Nat,r.isSome=decide (d∈ks)->Q r s) :
  wpAny (model X.prog X.w) A (setFind a (.ref b) (bN d)) Q E s:=by
 obtain⟨xs,e,m,r,l,⟨o,es,ep,t,S⟩,hk⟩:=V5 I n;refine Zc hu S hk (vO I.hok ky.1 ky.2) fun r hr=>h r ?_;rw[<- m d] at hr;by_cases z:d∈ks
 ·rw[ju z]; exact hr.mpr z
 ·rw[jL z,<- Bool.not_eq_true]; exact fun q=>z (hr.mp q)
end
end L2
namespace L2
open PySem PySem.Spec PyProof.Rows
section
variable{X:Cx}{ae:List (Addr×Obj)}{σ:St}{H:Hp}{s:Shared}{a:Addr}{ks:List PyData}
theorem V6{A:Around}{E:Value->Shared->Prop}{Q:Value->Shared->Prop}{d:PyData}{y:V}{u:Value}(hu:A.units+64<cLine)(I:Inv X ae σ H s)(n:jb H a ks)(ky:mJ H d y)(ry:RelV y u)(h:∀s',Inv X ae σ H s'->Q (.bool (!decide (d∈ks))) s') :
  wpAny (model X.prog X.w) A (compareOp .NotIn u (.ref a)) Q E s:=by
 obtain⟨b,rfl,rfl⟩:=ky.ref ry;have hT:=(uD I n).1;show wpAny _ _ (do return .bool (!(<- contains (.ref a) (.ref b)))) Q E s
 refine aY ?_;unfold contains
 try with_reducible refine nO ?_
 refine aY (Di hT F.slot_set_contains.lookup ?_);show wpAny _ _ (if(some (Value.builtin "set.__contains__")==some Value.none)=true then _ else _) _ E s
 rw[bD (by rw[beq_builtin_none]; exact mj)]
 refine aY (wpAny_callSpecialUnlessNone?_slot (name:=Str.ofString "__contains__") hT F.slot_set_contains
  (yC F.slot_set_contains hT entry_set_contains ?_ (F.args_set_contains_2 _ _)))
 unfold Builtin.«frozenset.__contains__» Builtin.Frozenset.oneOther;simp only[List.isEmpty_nil,bind_assoc];unfold Builtin.Frozenset.addrOf Builtin.Frozenset.withSetAsKey setContains;refine aY (b_ ?_)
 try dsimp only
 refine aY (b_ ?_)
 try dsimp only
 refine aY (yF ?_);refine nO ?_;refine aY ((bL X.prog X.w).pyHash (tO hu) (vO I.hok ky.1 ky.2) ?_);have I':Inv X ae σ H { s with toks:=s.toks+(bL X.prog X.w).draws d }:=I.tok _
 refine aY (Zn (s:={ s with toks:=s.toks+(bL X.prog X.w).draws d }) (tO hu) I' n ky fun r hr=>?_)
 refine b_ ?_;show wpAny _ _ (ret (Value.bool r.isSome)) _ _ _;rw[hr];exact b_ ⟨_,rfl,Gj (b_ (h _ I'))⟩
theorem V4{h':Heap}{t':Nat}{xs ys:List (PyData×Addr)}{ks':List PyData}(I:Inv X ae σ H s)(e:H a=some (SkO a xs))(hs:Heap.SameBut a s.heap h')(n:SkP a ys h')(m:∀d,d∈ks'↔d∈ys.map (·.1))(r:∀x∈ys,qK x.1/\At H x.1 (.ref x.2))(l:ys.length<=ks'.length) :
  Inv X ae σ (upd H a (SkO a ys)) { s with heap:=h',toks:=t' }/\jb (upd H a (SkO a ys)) a ks':=by
 obtain⟨o,es,ep,t,S⟩:=id n;refine⟨I.write (x:=a) (e:=a) (by rw[e]; exact True.intro) (.inl rfl) (fun b q hb z=>(hs.2 b hb).trans z) ⟨o,S.get⟩ (aa7 n),ys,aD,m,fun x hx=>⟨(r x hx).1,At.tupS (fun b xs hb=>?_) _ _ (lH _ (r x hx).1.k).2.2 (r x hx).2⟩,l⟩
 have nb:b≠a:=fun z=>by rw[z,e] at hb; cases hb
 rw[aP nb]; exact hb
theorem ab1{A:Around}{E:Value->Shared->Prop}{Q:Value->Shared->Prop}{d:PyData}{y:V}{u:Value}(hu:A.units+64<cLine)(I:Inv X ae σ H s)(n:jb H a ks)(hl:ks.length<1000)(ky:mJ H d y)(ry:RelV y u)(h:∀H' s',iG H a ks d H'->Inv X ae σ H' s'->Q .none s') :
  wpAny (model X.prog X.w) A (call (.builtin "set.add") [.ref a,u]) Q E s:=by
 obtain⟨b,rfl,rfl⟩:=ky.ref ry;have hT:=(uD I n).1;refine yC F.slot_set_add hT F.entry_set_add ?_ (F.args_set_add_2 _ _);unfold Builtin.«set.add» Builtin.Frozenset.oneOther;simp only[List.isEmpty_nil,bind_assoc];unfold Builtin.Frozenset.addrOf setAdd;refine aY (b_ ?_)
 try dsimp only
 refine aY (b_ ?_)
 try dsimp only
 refine aY ?_;refine nO ?_;refine aY ((bL X.prog X.w).pyHash (tO hu) (vO I.hok ky.1 ky.2) ?_);have I':Inv X ae σ H { s with toks:=s.toks+(bL X.prog X.w).draws d }:=I.tok _
 obtain⟨xs,e,m,r,l,⟨o,es,ep,t,S⟩,hk⟩:=V5 I' n;refine abQ (s:={ s with toks:=s.toks+(bL X.prog X.w).draws d }) (tO hu) S hk (vO I'.hok ky.1 ky.2) ∅ fun rr h' o' es' ep' t' ys sb S' hy=>?_
 have fin:(∀z,z∈ks++[d]↔z∈ys.map (·.1))/\(∀x∈ys,qK x.1/\At H x.1 (.ref x.2))/\ys.length<=(ks++[d]).length:=by
  rw[c7];rcases hy with⟨hd,rfl⟩ | ⟨hd,pm⟩
  ·refine⟨fun z=>?_,r,∅⟩
   rw[<- m z,lE,fP];exact⟨fun q=>q.elim id fun q=>by rw[q]; exact(m d).mpr hd,.inl⟩
  ·refine⟨fun z=>?_,fun x hx=>?_,?_⟩
   ·rw[(pm.map (·.1)).mem_iff,oX,bT,lE,fP,m z];exact⟨fun q=>q.elim .inr .inl,fun q=>q.elim .inr .inl⟩
   ·rcases bT.mp (pm.mem_iff.mp hx) with rfl | hx
    ·exact⟨ky.1,ky.2⟩
    ·exact r x hx
   ·rw[pm.length_eq,jU]; show xs.length+1<=ks.length+1; omega
 obtain⟨I2,n2⟩:=V4 (t':=s.toks+(bL X.prog X.w).draws d) I' e sb ⟨o',es',ep',t',S'⟩ fin.1 fin.2.1 fin.2.2;show wpAny _ _ (ret Value.none) _ _ _;exact b_ ⟨_,rfl,h _ _ ⟨⟨_,rfl⟩,n2⟩ I2⟩
end
section
variable{X:Cx}
theorem Sw(hu:X.A.units+64<cLine):rR X (compareOp .NotIn) (fun x y H Q=>∃a ks d,y=.ref a/\jb H a ks/\mJ H d x/\Q (.bl (!decide (d∈ks))) H):=by
 symm;intro x y v u Q I rx ry h;obtain⟨a,ks,d,rfl,n,k,q⟩:=h;cases ry;exact V6 hu I n k rx fun s' I'=>⟨.bl _,H,I',rfl,q⟩
theorem Vt(led:Bool):Uv (.fresh 0 0 led) []:=by
 refine⟨rfl,fun a b x y h=>?_,rfl,fun i j h=>?_,⟨3,⋯,⋯,rfl⟩,by show 5*0<3*7; decide,fun i h j z=>by simp at z⟩
 ·have h:(#[]:Array Nat)[a]?=some x:=h;simp at h
 ·have h:(#[]:Array Nat)[i]?=some j:=h;simp at h
def aba:List V->Hp->VK->Prop:=fun vs H Q=>vs=[]/\∀p H',H p=none->aF H H'->jb H' p []->(∃φ,H'=upd H p (.ext φ))->Q (.ref p) H'
theorem Ud:cZ X (.type "set") aba:=by
 symm;intro vs us Q I r h;obtain⟨rfl,q⟩:=h;cases r;refine call_set_0 fun led=>?_;have hf:=I.hok.fresh (dM s.heap.objs.size);have n:SkP s.heap.objs.size [] (s.heap.push { cls:=.type "set",dict:=none,data:=.set #[] 0 (.fresh 0 0 led) }):=⟨_,#[],0,_,dF _ rfl,⟨rfl,rfl,rfl⟩,rfl,rfl,Vt led,Dc⟩;exact⟨.ref s.heap.objs.size,_,I.laid (a:=s.heap.objs.size) (o:=SkO s.heap.objs.size []) (t':=s.toks) (fun _ _ q=>dJ _ q) (dM _) (aa7 n),rfl,q _ _ hf (aM hf _) ⟨[],aD,fun d=>by simp,fun x hx=>(nomatch hx),dM _⟩ ⟨_,rfl⟩⟩
def aaY(to:TE)(t:TA):TE:=fun σ H Q=>to σ H fun x H1=>(∃a ks,x=.ref a/\jb H1 a ks)/\t σ H1 fun vs H2=>∃a ks y d,x=.ref a/\vs=[y]/\jb H2 a ks/\ks.length<1000/\mJ H2 d y/\∀H3,iG H2 a ks d H3->Q .non H3
theorem Qv(hu:X.A.units+64<cLine){o e:Expr}{to:TE}{t:TA}{apos cpos:Pos}(ho:PE X o to)(ha:PA X [e] t)
  (hbase:attributeBase o "add" X.env (eval o X.env)=eval o X.env:=by rfl)
  (hfew:((backTo cpos (starEach [e] X.env)).all (fun x=>!x.1)&&(backToKw cpos (keywordEach [] X.env)).all (fun x=>x.1.isSome)
   && decide (([e]:List Expr).length+([]:List Keyword).length+(if([]:List Keyword).isEmpty then 0 else 1)<30))=true:=by rfl)
  (hline:(apos.endLine==cpos.line)=true:=by rfl) (hs:starEach [e] X.env=(false,eval e X.env)::starEach [] X.env:=by rfl) (hplain:(backTo cpos (starEach [] X.env)).any (·.1)=false:=by rfl) :
  PE X (.Call (.Attribute o "add" apos) [e] [] cpos) (aaY to t):=by
 symm;intro Q I h;refine wpAny_Call_method_late hbase hfew hline rfl (dI (ho ae s σ H _ I h) fun v s1 qx=>?_);obtain⟨x,H1,I1,r1,⟨a,ks,ex,n⟩,q1⟩:=qx;subst ex;cases r1;obtain⟨h1,h2⟩:=uD I1 n;refine⟨"set","set.add",F.plainAttrs_set,F.slot_set_add,F.type_set_add,h1,h2,?_⟩;have hA:=ha cpos ae s1 σ H1 _ I1 q1;rw[hs] at hA ⊢;refine Calls.callWith_builtin (by show(false || (backTo cpos (starEach [] X.env)).any (·.1))=false; rw[hplain] <;> rfl) (Calls.evalArgs_plain ?_)
 refine dI hA fun us s2 qx=>?_;obtain⟨vs,H2,I2,r2,a',ks',y,d,e1,e2,n2,hl,ky,q2⟩:=qx;cases e1;subst e2;obtain⟨u,rfl,ru⟩:=r2.one;exact ab1 hu I2 n2 hl ky ru fun H' s' p I'=>⟨.non,H',I',rfl,q2 H' p⟩
end
section
variable{P:Program}{w:World}{K:Frag}{mg:Str->Option Value}{base:Heap}{N:List Str}{qual:Str}{scope:Scope}{f:Addr}{cd:Value}{A:Around}{outer:List Env}{s0:Shared}{H0:Hp}{E:XK}
theorem Su{ae:List (Addr×Obj)}{σ:St}{H1:Hp}{s1 s':Shared}{e:Value}{E':XK}(I:Inv (iH (pQ P w) P w K mg base N qual scope f cd A outer s0 H0 E) ae σ H1 s1)(c:pQ P w (envOfC qual scope s0.heap.objs.size f cd::outer) H1 s1 E' e s')
  (hE:∀cls H2,E' cls none H2->∀H3,(aF H1 H2->aF H1 H3)->E cls none H3):(iH (pQ P w) P w K mg base N qual scope f cd A outer s0 H0 E).xe e s':=by
 obtain⟨a,T0,cls,H2,rfl,os,bare,un,hok,ha,hT0,n0,⟨na',acB⟩,q⟩:=c;have na:H1 a=none:=I.hok.none na';have nT0:H1 T0=none:=I.hok.none acB;have q:=hE cls H2 q;have I2:Inv (iH (pQ P w) P w K mg base N qual scope f cd A outer s0 H0 E) ae σ H2 s':=I.call' (ch:=[]) os un hok bare fun b z=>nomatch z
 have ff:s'.heap.FunFrames base (envOfC qual scope s0.heap.objs.size f cd::outer):=I2.stack;have fr:(A.deeper (envOfC qual scope s0.heap.objs.size f cd)).frames=some (envOfC qual scope s0.heap.objs.size f cd::outer):=I2.ok.frames;show wpAny _ _ (leaving (envOfC qual scope s0.heap.objs.size f cd) (.ref a)) _ _ _;unfold leaving;refine aY ?_;refine noteE2 fr ff rfl (xf.at (hok a _ ha)) (Bx.at (hok T0 _ hT0)) n0 fun h3 T nt=>?_
 have fT:s'.heap.get? T=none:=by
  cases z:s'.heap.get? T with
  | none=>rfl
  | some o=>exact absurd (cI z) (Nat.not_lt.mpr nt.fresh)
 have nT:H2 T=none:=hok.none fT;have Ta:T≠a:=fun z=>by rw[z,ha] at nT; cases nT
 have TT:T≠T0:=fun z=>by rw[z,hT0] at nT; cases nT
 have I3:Inv (iH (pQ P w) P w K mg base N qual scope f cd A outer s0 H0 E) ae σ (upd (upd (upd H2 T0 (YX T0)) a (xf a cls T)) T (Bx T)) { s' with heap:=h3 }:=by
  refine I2.ext (fun b=>b=a\/b=T0\/b=T) (fun b o z y x=>nt.keep b o (fun w=>z (.inl w)) (fun w=>z (.inr (.inl w))) y x) (fun b o z x=>nt.slot b o (fun w=>z (.inl w)) (fun w=>z (.inr (.inl w))) x) (fun b o z x=>?_) (fun b z=>?_) (fun b z=>?_) (fun b u z y=>?_)
  ·rcases z with rfl | rfl | rfl
   ·obtain⟨oe,vs,e1,_⟩:=nt.ex; exact⟨_,e1⟩
   ·exact nt.old
   ·rw[fT] at x; cases x
  ·rcases z with rfl | rfl | rfl
   ·exact .inr ⟨_,ha⟩
   ·exact .inr ⟨_,hT0⟩
   ·exact .inl ⟨nT,fT⟩
  ·rw[aP fun w=>z (.inr (.inr w)),aP fun w=>z (.inl w),aP fun w=>z (.inr (.inl w))]
  ·rcases z with rfl | rfl | rfl
   ·rw[aP (Ne.symm Ta),aD] at y; cases y; exact WW nt.ex
   ·rw[aP (Ne.symm TT),aP n0,aD] at y; cases y; exact abj nt.old
   ·rw[aD] at y; cases y; exact QF nt.tb
 have hx3:upd (upd (upd H2 T0 (YX T0)) a (xf a cls T)) T (Bx T) a=some (xf a cls T):=by rw[aP (Ne.symm Ta),aD]
 have hT3:upd (upd (upd H2 T0 (YX T0)) a (xf a cls T)) T (Bx T) T=some (Bx T):=aD
 have sm:aF H1 H2->aF H1 (upd (upd (upd H2 T0 (YX T0)) a (xf a cls T)) T (Bx T)):=fun y b o z=>by
  have g:=y b o z;rw[aP (fun w=>by rw[w,nT] at g; cases g),aP (fun w=>by rw[w,na] at z; cases z),aP (fun w=>by rw[w,nT0] at z; cases z)]
  exact g
 refine⟨a,T,cls,_,rfl,I3.os,I3.bare,I3.base,I3.hok,hx3,hT3,Ta,⟨?_,?_⟩,q _ sm⟩
 ·cases z:s0.heap.get? a with
  | none=>rfl
  | some o=>
   obtain⟨o',g⟩:=(show Un (frs outer) [] H0 H1 s0.heap s1.heap from I.base).there a o z (by simp)
   rw[na'] at g; cases g
 ·cases z:s0.heap.get? T with
  | none=>rfl
  | some o=>
   obtain⟨o',g⟩:=(show Un (frs outer) [] H0 H2 s0.heap s'.heap from I2.base).there T o z (by simp)
   rw[fT] at g; cases g
def VB(sp:Sp)(U5:List V)(E:XK)(t:TA):TE:=fun σ H Q=>t σ H fun vs H1=>sp (vs++U5) H1 Q (fun cls _ H2=>∀H3,(aF H1 H2->aF H1 H3)->E cls none H3)
theorem Zq{ae:List (Addr×Obj)}{σ:St}{H:Hp}{s:Shared}{Q:VK}{us:List Value}{vs:List V}{k:Nat}{x:Str}{ps:List Str}{sp:Sp}(c:YW P w K mg base k x ps sp)(hr:jm k (A.deeper (envOfC qual scope s0.heap.objs.size f cd)))(I:Inv (iH (pQ P w) P w K mg base N qual scope f cd A outer s0 H0 E) ae σ H s)(r:Vals vs us)
  (q:sp vs H Q (fun cls _ H2=>∀H3,(aF H H2->aF H H3)->E cls none H3)):wpAny (model P w) (A.deeper (envOfC qual scope s0.heap.objs.size f cd)) (call (.ref c.f) us) (EP (iH (pQ P w) P w K mg base N qual scope f cd A outer s0 H0 E) ae σ Q) (iH (pQ P w) P w K mg base N qual scope f cd A outer s0 H0 E).xe s:=by
 have hl2:us.length=ps.length:=by rw[<- r.length]; exact c.G.len _ _ _ _ q
 have hb:=c.b s us I.qg (by rw[oY]; exact hl2)
 rw[oY] at hb;refine wpAny_call (codeAny_mono (c.G.run _ _ s H ⟨us,[]⟩ us vs _ _ hr I.env0 hb r q) fun r s' z=>?_);cases r with
 | error e'=>
  have z':pQ P w (envOfC qual scope s0.heap.objs.size f cd::outer) H s (fun cls _ H2=>∀H3,(aF H H2->aF H H3)->E cls none H3) e' s':=z;exact Su I z' fun cls H2 y=>y
 | ok fl=>
  cases fl with
  | ret u=>
   obtain⟨v,H2,I2,rv2,q2⟩:=I.after z;exact⟨v,H2,I2,rv2,q2⟩
  | next=>exact False.elim z
  | brk=>exact False.elim z
  | cont=>exact False.elim z
theorem pfe{k:Nat}{x:Str}{p pos:Pos}{e:Expr}{es:List Expr}{ps:List Str}{sp:Sp}{t:TA}(c:YW P w K mg base k x ps sp)(hr:jm k (A.deeper (envOfC qual scope s0.heap.objs.size f cd)))(ha:PA (iH (pQ P w) P w K mg base N qual scope f cd A outer s0 H0 E) (e::es) t)
  (hg:Gl (iH (pQ P w) P w K mg base N qual scope f cd A outer s0 H0 E) x:=by rfl) (hdb:(x==("__debug__" : Str))=false:=by decide) (h1:cF e=true:=by rfl) (h2:es.all cF=true:=by rfl) :
  PE (iH (pQ P w) P w K mg base N qual scope f cd A outer s0 H0 E) (.Call (.Name x p) (e::es) [] pos) (VB sp [] E t):=by
 symm;intro Q I h;refine qY (tX I hg c.m ?_ hdb);refine callWith_K (h₀:=base) I.ok.mod.Xn c.kp (dI (ha pos ae s σ H _ I h) fun us s1 ⟨vs,H1,I1,r,q⟩=>⟨I1.qg,?_⟩) (cW h1) (cU h2);dsimp only at q;rw[oY] at q;exact Zq c hr I1 r q
end
abbrev TX:=St->Hp->VK->(Value->Hp->Hp->Prop)->Prop
abbrev U8:=Ends->(Value->St->Hp->Hp->Prop)->St->Hp->Prop
def XL(X:Cx)(ae:List (Addr×Obj))(σ:St)(EE:Value->Hp->Hp->Prop):Value->Shared->Prop:=fun e s'=>∃H1 s1 E',Inv X ae σ H1 s1/\pQ X.prog X.w X.stack H1 s1 E' e s'/\∀cls H2,E' cls none H2->EE cls H1 H2
def XLs(X:Cx)(ae:List (Addr×Obj))(EE:Value->St->Hp->Hp->Prop):Value->Shared->Prop:=fun e s'=>∃σ1 H1 s1 E',Inv X ae σ1 H1 s1/\pQ X.prog X.w X.stack H1 s1 E' e s'/\∀cls H2,E' cls none H2->EE cls σ1 H1 H2
structure PX(X:Cx)(e:Expr)(t:TX):Prop where
 mk ::
 go:∀(ae:List (Addr×Obj))(s:Shared)(σ:St)(H:Hp)(Q:VK)(EE:Value->Hp->Hp->Prop),Inv X ae σ H s->t σ H Q EE->wpAny (model X.prog X.w) X.A (eval e X.env) (EP X ae σ Q) (XL X ae σ EE) s
structure PSX(X:Cx)(st:Stmt)(t:U8):Prop where
 mk ::
 go:∀(ae:List (Addr×Obj))(s:Shared)(σ:St)(H:Hp)(D:Ends)(EE:Value->St->Hp->Hp->Prop),Inv X ae σ H s->t D EE σ H->wpAny (model X.prog X.w) X.A (exec st X.env) (SP X ae D) (XLs X ae EE) s
structure afm(X:Cx)(st:List Stmt)(t:U8):Prop where
 mk ::
 go:∀(ae:List (Addr×Obj))(s:Shared)(σ:St)(H:Hp)(D:Ends)(EE:Value->St->Hp->Hp->Prop),Inv X ae σ H s->t D EE σ H->wpAny (model X.prog X.w) X.A (execs st X.env) (SP X ae D) (XLs X ae EE) s
def xPe(te:TE):TX:=fun σ H Q _=>te σ H Q
def aaT(sp:Sp)(U5:List V)(ta:TA):TX:=fun σ H Q EE=>ta σ H fun vs H1=>sp (vs++U5) H1 Q (fun cls _ H2=>EE cls H1 H2)
def xIf(tc:TT)(a b:TX):TX:=fun σ H Q EE=>tc σ H fun d H1=>if d=true then a σ H1 Q EE else b σ H1 Q EE
def adZ(i:Nat)(t:TX):U8:=fun D EE σ H=>t σ H (fun v H'=>D.nx (σ.set i (some v)) H') (fun cls H1 H2=>EE cls σ H1 H2)
def ad0(t:TX):U8:=fun D EE σ H=>t σ H (fun _ H'=>D.nx σ H') (fun cls H1 H2=>EE cls σ H1 H2)
def agc(tc:TT)(a b:U8):U8:=fun D EE σ H=>tc σ H fun d H1=>if d=true then a D EE σ H1 else b D EE σ H1
def xPs(t:TS):U8:=fun D _ σ H=>t D σ H
def agb(a b:U8):U8:=fun D EE σ H=>a { D with nx:=fun σ' H'=>b D EE σ' H' } EE σ H
section
variable{X:Cx}
theorem Qm{k:Nat}{x:Str}{p pos:Pos}{e:Expr}{es:List Expr}{ps:List Str}{sp:Sp}{t:TA}(c:YW X.prog X.w X.K X.mg X.base k x ps sp)(hr:jm k X.A)(ha:PA X (e::es) t)
  (hn:∀e s,X.xe e s->False:=by exact fun _ _ z=>z) (hg:Gl X x:=by rfl) (hdb:(x==("__debug__" : Str))=false:=by decide) (h1:cF e=true:=by rfl) (h2:es.all cF=true:=by rfl) :
  PX X (.Call (.Name x p) (e::es) [] pos) (aaT sp [] t):=by
 symm;intro Q EE I h;refine qY (tX I hg c.m ?_ hdb);refine callWith_K (h₀:=X.base) I.ok.mod.Xn c.kp (iM (ha pos ae s σ H _ I h) (fun us s1 ⟨vs,H1,I1,r,q⟩=>⟨I1.qg,?_⟩) fun _ _ z=>(hn _ _ z).elim) (cW h1) (cU h2);dsimp only at q;rw[oY] at q;have hl2:us.length=ps.length:=by rw[<- r.length]; exact c.G.len _ _ _ _ q
 have hb:=c.b s1 us I1.qg (by rw[oY]; exact hl2)
 rw[oY] at hb;refine wpAny_call (codeAny_mono (c.G.run _ _ s1 H1 ⟨us,[]⟩ us vs _ _ hr I1.env0 hb r q) fun r s' z=>?_);cases r with
 | error e'=>exact⟨H1,s1,fun cls _ H2=>EE cls H1 H2,I1,z,fun cls H2 y=>y⟩
 | ok fl=>
  cases fl with
  | ret u=>
   obtain⟨v,H2,I2,rv2,q2⟩:=I1.after z;exact⟨v,H2,I2,rv2,q2⟩
  | next=>exact False.elim z
  | brk=>exact False.elim z
  | cont=>exact False.elim z
theorem Qo{i:Nat}{x:Str}{e:Expr}{te:TX}{pos pos':Pos}(hN:X.N.Nodup)(he:PX X e te)(hi:X.N[i]?=some x:=by rfl)(hx:Loc X.env.scope x:=by walk_at "o")(hs:swapsWith e (some (.Name x pos')) pos.line X.env=pure false:=by rfl)(hf:X.fn x=true\/X.env.scope.names.lookup x=some .local:=by walk_at "o")(hn:∀e s,X.xe e s->False:=by exact fun _ _ z=>z) :
  PSX X (.Assign [.Name x pos'] e pos) (adZ i te):=by
 symm;intro D EE I h;refine wpAny_Assign_Name (iM (he.go ae s σ H _ _ I h) (fun v s1 ⟨y,H1,I1,r1,q1⟩=>?_) fun e s z=>?_) hs
 ·exact jt I1 hN hi hx r1 (fun s2 I2=>⟨_,H1,I2,q1⟩) hf
 ·obtain⟨H1,s1,E',I1,c,q⟩:=z;exact⟨σ,H1,s1,E',I1,c,q⟩
theorem J4{st:Stmt}{a:U8}(ha:PSX X st a):afm X [st] a:=by
 symm;intro D EE I h;refine wpAny_execs_cons (iM (ha.go ae s σ H _ EE I h) (fun fl s1 z=>?_) fun _ _ z=>z);cases fl with
 | next=>exact Dh z
 | ret u=>exact z
 | brk=>exact z
 | cont=>exact z
def Vu(ie:Nat)(ok:Value->Prop)(tb:U8)(ts:TS):TS:=fun D σ H=>tb D (fun cls σ1 H1 H2=>ok cls/\∀a H3,(aF H1 H2->aF H1 H3)->YB H3 a cls->ts { nx:=fun σ' H'=>D.nx (σ'.set ie none) H',rt:=fun _ _=>False } (σ1.set ie (some (.ref a))) H3) σ H
theorem Qp{K:Frag}{ie:Nat}{hx n:Str}{CH:Addr}{hp pos tp:Pos}{body:List Stmt}{b0:Stmt}{suite:List Stmt}{tb:U8}{ts:TS}(hK:X.K=K)
  (hb:afm X body tb) (hs:∀e,BK (X.in' e) (b0::suite) ts) (hN:X.N.Nodup) (hm:X.mg hx=some (.ref CH)) (hie:X.N[ie]?=some n:=by rfl) (hl:X.env.scope.names.lookup n=some .local:=by rfl) (hgx:Gl X hx:=by rfl)
  (hn:∀e s,X.xe e s->False:=by exact fun _ _ z=>z) (st:X.stack=X.env::X.outer:=by rfl) (fL:X.env.frame=some X.env.locals:=by rfl) (hd:(hx==("__debug__" : Str))=false:=by decide) :
  PS X (.Try body [.ExceptHandler (some (.Name hx hp)) (some n) (b0::suite) pos] [] [] tp) (Vu ie (fun cls=>exmOne K cls (.ref CH)=some true) tb ts):=by
 subst hK;symm;intro D I h;refine wpAny_Try_except (iM (hb.go ae s σ H D _ I h) (fun fl s1 z=>?_) fun e s' z=>?_)
 ·cases fl with
  | next=>exact Dh z
  | ret u=>exact z
  | brk=>exact z
  | cont=>exact z
 ·obtain⟨σ1,H1,s1,E',I1,c,q⟩:=z;exact Yn I1 c q hN hie hl hgx hm hs hn st fL hd
end
section
variable{X:Cx}
end
def FK2(g:TG)(tb:TS)(D:Ends)(σ:St)(vs:List V)(H1:Hp):Prop:=∃i j:Int,vs=[.int i,.int j]/\(-(2 ^ 62)<=i/\i<2 ^ 62/\-(2 ^ 62)<=j/\j<2 ^ 62)/\∃W:Nat->Nat->St->Hp->Prop,(∃m,W 0 m σ H1)/\∀k m σ H,W k m σ H ->
 ((Ln i (j-i).toNat).stop k H/\D.nx σ H)\/((Ln i (j-i).toNat).go k H/\∃N:St->Hp->Prop,(∀σ' H',N σ' H'->∃m',m'<m/\W (k+1) m' σ' H')/\∀x H',(Ln i (j-i).toNat).xj k H x H'->g x σ H' fun σ2 H2=>tb { D with nx:=N,ct:=N,bk:=D.nx } σ2 H2)
theorem Ca{ta:TA}{g:TG}{tb:TS}{D:Ends}{σ:St}{H:Hp}:Aq (abp ta) g tb D σ H=ta σ H (FK2 g tb D σ):=rfl
theorem FK2.of{g:TG}{tb:TS}{D:Ends}{σ:St}{H:Hp}{n:Nat}{i j:Int}(hi:-1000000<=i/\i<=1000000)(hj:-1000000<=j/\j<=1000000)(en:(j-i).toNat=n)(Pv:Nat->St->Hp->Prop)(h0:Pv 0 σ H)
  (hs:∀k σ H,k<n->Pv k σ H->g (.int (i+(k:Nat))) σ H fun σ2 H2=>tb { D with nx:=Pv (k+1),ct:=Pv (k+1),bk:=D.nx } σ2 H2) (hd:∀σ H,Pv n σ H->D.nx σ H):FK2 g tb D σ [.int i,.int j] H:=by
 refine⟨i,j,rfl,∅,?_⟩
 rw[en];exact vg Pv h0 hs hd
theorem Bw:bootBuiltins "ValueError" = some (.type "ValueError"):=by decide +kernel
abbrev jB(K:Frag)(x:Str)(st:Stmt)(f:Addr):Prop:=∃(oc:Value)(od an:Option Addr)(sl:Array (Option Value))(kV dc pm cd ct:Value),nsIn K mainGlobals x=some (some (.ref f))/\K.lookup f=some ⟨oc,od,.func (fnOf x x (gk st) (eU st) (aK st) .none kV dc pm an cd ct),sl⟩/\codeIn K cd x=true/\keepIn K (.ref f)=true
abbrev FnD(K:Frag)(x:Str)(st:Stmt)(f:Addr)(T:Addr)(i:Int):Prop:=∃(oc oT:Value)(od an dT:Option Addr)(sl sT:Array (Option Value))(kV dc pm cd ct:Value)(t:Tok)(nT:Nat),nsIn K mainGlobals x=some (some (.ref f))/\K.lookup f=some ⟨oc,od,.func (fnOf x x (gk st) (eU st) (aK st) (.ref T) kV dc pm an cd ct),sl⟩/\codeIn K cd x=true/\keepIn K (.ref f)=true/\K.lookup T=some ⟨oT,dT,.seq #[.int i t] nT,sT⟩
structure Has(K:Frag)(mg:Str->Option Value)(x:Str)(st:Stmt)(ps:List Str) where
 f:Addr
 fd:FuncData
 F:jc K x x st f fd
 b:Binds K fd ps []
 m:mg x=some (.ref f)
structure YC(K:Frag)(mg:Str->Option Value)(x:Str)(st:Stmt)(ps:List Str)(i:Int) where
 f:Addr
 fd:FuncData
 T:Addr
 t:Tok
 F:Aj K x x st f fd T i t
 b:Binds K fd ps []
 bd:Binds K fd ps [.int i t]
 m:mg x=some (.ref f)
section
variable{K:Frag}{h:Heap}{mg:Str->Option Value}
theorem jB.mk{x:Str}{st:Stmt}{f:Addr}{oc:Value}{od an:Option Addr}{sl:Array (Option Value)}{kV dc pm cd ct:Value}(a:nsIn K mainGlobals x=some (some (.ref f)))(l:K.lookup f=some ⟨oc,od,.func (fnOf x x (gk st) (eU st) (aK st) .none kV dc pm an cd ct),sl⟩)(c:codeIn K cd x=true)(k:keepIn K (.ref f)=true):jB K x st f:=⟨oc,od,an,sl,kV,dc,pm,cd,ct,a,l,c,k⟩
theorem FnD.mk{x:Str}{st:Stmt}{f T:Addr}{i:Int}{oc oT:Value}{od an dT:Option Addr}{sl sT:Array (Option Value)}{kV dc pm cd ct:Value}{t:Tok}{nT:Nat}(a:nsIn K mainGlobals x=some (some (.ref f)))(l:K.lookup f=some ⟨oc,od,.func (fnOf x x (gk st) (eU st) (aK st) (.ref T) kV dc pm an cd ct),sl⟩)(c:codeIn K cd x=true)(k:keepIn K (.ref f)=true)(e:K.lookup T=some ⟨oT,dT,.seq #[.int i t] nT,sT⟩):FnD K x st f T i:=⟨oc,oT,od,an,dT,sl,sT,kV,dc,pm,cd,ct,t,nT,a,l,c,k,e⟩
theorem jB.has{x:Str}{st:Stmt}{f:Addr}(e:jB K x st f)(X:K.In h)(G:h.Ns mainGlobals mg){ps:List Str}(H:∀(kV doc pm:Value) (an:Option Addr) (cdv ct:Value) (us:List Value),us.length=ps.length->bindArgs (fnOf x x (gk st) (eU st) (aK st) .none kV doc pm an cdv ct) ⟨us,[]⟩=pure (ps.zip us)):Nonempty (Has K mg x st ps):=by
 obtain⟨oc,od,an,sl,kV,dc,pm,cd,ct,a,l,c,k⟩:=e;have F:=XX (st:=st) l c k;exact⟨⟨_,_,F,F.binds H,mg_of X G a⟩⟩
theorem FnD.has{x:Str}{st:Stmt}{f T:Addr}{i:Int}(e:FnD K x st f T i)(X:K.In h)(G:h.Ns mainGlobals mg){ps:List Str}
  (H:∀(t:Tok)(kV doc pm:Value)(an:Option Addr)(cdv ct:Value)(us:List Value),(us++[]).length=ps.length->∃k,bindArgs (fnOf x x (gk st) (eU st) (aK st) (.ref T) kV doc pm an cdv ct) ⟨us,[]⟩=seqItems? (.ref T) >>= k/\k (some #[.int i t])=pure (ps.zip (us++[])))
  (H':∀(t:Tok)(kV doc pm:Value)(an:Option Addr)(cdv ct:Value)(us:List Value),(us++[Value.int i t]).length=ps.length->∃k,bindArgs (fnOf x x (gk st) (eU st) (aK st) (.ref T) kV doc pm an cdv ct) ⟨us,[]⟩=seqItems? (.ref T) >>= k/\k (some #[.int i t])=pure (ps.zip (us++[.int i t]))):Nonempty (YC K mg x st ps i):=by
 obtain⟨oc,oT,od,an,dT,sl,sT,kV,dc,pm,cd,ct,t,nT,a,l,c,k,e⟩:=e;have F:Aj K x x st f _ T i t:=⟨⟨_,_,_,_,_,_,_,_,_,rfl,l,c⟩,k,⟨_,_,e,rfl⟩⟩;exact⟨⟨_,_,_,_,F,F.binds (H t),F.binds (H' t),mg_of X G a⟩⟩
def Has.ct{x:Str}{st:Stmt}{ps:List Str}{k:Nat}{sp:Sp}(h:Has K mg x st ps)(P:Program)(w:World)(base:Heap)(G:bZ P w K mg base iJ k h.f h.fd ps sp):Ct P w K mg base k x ps sp:=⟨h.f,h.fd,G,h.F.kp,h.b,h.m⟩
def Has.ctE{x:Str}{st:Stmt}{ps:List Str}{k:Nat}{sp:Sp}(h:Has K mg x st ps)(P:Program)(w:World)(base:Heap)(G:bZ P w K mg base (pQ P w) k h.f h.fd ps sp):YW P w K mg base k x ps sp:=⟨h.f,h.fd,G,h.F.kp,h.b,h.m⟩
def YC.ct{x:Str}{st:Stmt}{ps:List Str}{i:Int}{k:Nat}{sp:Sp}(h:YC K mg x st ps i)(P:Program)(w:World)(base:Heap)(G:bZ P w K mg base iJ k h.f h.fd ps sp):CtD P w K mg base k x ps i sp:=⟨h.f,h.fd,h.t,G,h.F.kp,h.b,h.bd,h.m⟩
abbrev Nb(K:Frag)(x:Str):Prop:=nsIn K mainGlobals x=some none
abbrev Ni(K:Frag)(x:Str)(i:Int):Prop:=∃t,nsIn K mainGlobals x=some (some (.int i t))
abbrev BL(K:Frag)(x s:Str):Prop:=∃t,nsIn K mainGlobals x=some (some (.str s t))
theorem Ni.mk{x:Str}{i:Int}{t:Tok}(a:nsIn K mainGlobals x=some (some (.int i t))):Ni K x i:=⟨t,a⟩
theorem BL.mk{x s:Str}{t:Tok}(a:nsIn K mainGlobals x=some (some (.str s t))):BL K x s:=⟨t,a⟩
theorem Ni.gi{x:Str}{i:Int}(e:Ni K x i)(X:K.In h)(G:h.Ns mainGlobals mg):Gi mg x i:=let ⟨t,z⟩:=e; ⟨t,mg_of X G z⟩
theorem BL.gs{x s:Str}(e:BL K x s)(X:K.In h)(G:h.Ns mainGlobals mg):Gs mg x s:=let ⟨t,z⟩:=e; ⟨t,mg_of X G z⟩
abbrev NT(K:Frag)(x:Str)(vs:List Value):Prop:=∃(a:Addr)(n:Nat)(sl:Array (Option Value)),nsIn K mainGlobals x=some (some (.ref a))/\K.lookup a=some ⟨.type "tuple",none,.seq vs.toArray n,sl⟩
theorem NT.mk{x:Str}{vs:List Value}{a:Addr}{n:Nat}{sl:Array (Option Value)}(b:nsIn K mainGlobals x=some (some (.ref a)))(l:K.lookup a=some ⟨.type "tuple",none,.seq vs.toArray n,sl⟩):NT K x vs:=⟨a,n,sl,b,l⟩
end
theorem ac2:bootBuiltins "set" = some (.type "set"):=by decide +kernel
section
variable{X:Cx}{ae:List (Addr×Obj)}{σ:St}{H1:Hp}{s1 s':Shared}
end
section
variable{P:Program}{w:World}{K:Frag}{mg:Str->Option Value}{base:Heap}
theorem Aj.okE{x qual:Str}{st:Stmt}{f T:Addr}{i:Int}{t:Tok}{fd:FuncData}{N ps:List Str}{k:Nat}{sp:Sp}(F:Aj K x qual st f fd T i t)(S:a_ N ps (aK st))(len:∀vs H Q E,sp vs H Q E->vs.length=ps.length)
  (hbody:∀(cdv:Value)(A:Around)(outer:List Env)(s:Shared)(H:Hp)(vs:List V)(Q:VK)(E:XK),mL P w H s.heap->jm k (A.deeper (envOfC qual (aK st) s.heap.objs.size f cdv))->sp vs H Q E ->
   ∃t,BK (iH (pQ P w) P w K mg base N qual (aK st) f cdv A outer s H E) (eU st) t/\t { nx:=fun _ H'=>Q .non H',rt:=Q } (start N vs) H):bZ P w K mg base (pQ P w) (k+1) f fd ps sp:=by
 obtain⟨oc,od,kV,doc,pm,an,cdv,ct,osl,rfl,lk,hcd⟩:=F.ex;exact X4 lk hcd S len fun A outer s H vs Q E UW hr hsp=>hbody cdv A outer s H vs Q E UW hr hsp
structure CtF(P:Program)(w:World)(K:Frag)(mg:Str->Option Value)(base:Heap)(k:Nat)(x:Str)(ps:List Str)(i:Int)(sp:Sp) where
 f:Addr
 fd:FuncData
 t:Tok
 G:bZ P w K mg base (pQ P w) k f fd ps sp
 kp:keepIn K (.ref f)=true
 b:Binds K fd ps []
 bd:Binds K fd ps [.int i t]
 m:mg x=some (.ref f)
def CtF.mono{j k:Nat}{x:Str}{ps:List Str}{i:Int}{sp:Sp}(c:CtF P w K mg base j x ps i sp)(h:j<=k):CtF P w K mg base k x ps i sp:={ c with G:=c.G.mono h }
def CtF.all{k:Nat}{x:Str}{ps:List Str}{i:Int}{sp:Sp}(c:CtF P w K mg base k x ps i sp):YW P w K mg base k x ps sp:=⟨c.f,c.fd,c.G,c.kp,c.b,c.m⟩
def YC.ctF{x:Str}{st:Stmt}{ps:List Str}{i:Int}{k:Nat}{sp:Sp}(h:YC K mg x st ps i)(P:Program)(w:World)(base:Heap)(G:bZ P w K mg base (pQ P w) k h.f h.fd ps sp):CtF P w K mg base k x ps i sp:=⟨h.f,h.fd,h.t,G,h.F.kp,h.b,h.bd,h.m⟩
end
section
variable{X:Cx}
end
section
variable{X:Cx}
def aa_:List V->Hp->VK->Prop:=fun vs H Q=>∃j:Int,vs=[.int j]/\-(2 ^ 62)<=j/\j<2 ^ 62/\∀p H',H p=none->aF H H'->H' p=some (.Zr 0 j)->Q (.ref p) H'
theorem Uc:cZ X (.type "range") aa_:=by
 symm;intro vs us Q I r h;obtain⟨j,rfl,h1,h2,q⟩:=h;obtain⟨u,rfl,t,rfl⟩:=r.one;refine call_range_1 ?_;have hf:=I.hok.fresh (dM s.heap.objs.size);exact⟨.ref s.heap.objs.size,_,I.laid (a:=s.heap.objs.size) (o:=.Zr 0 j) (fun _ _ q=>dJ _ q) (dM _) (show cH X.prog X.w _ _ _ (.Zr 0 j) from⟨_,_,_,dF _ rfl⟩),rfl,q _ _ hf (aM hf _) aD⟩
def abb:List V->Hp->VK->Prop:=fun vs H Q=>∃(p:Addr)(j:Int),vs=[.ref p]/\H p=some (.Zr 0 j)/\-(2 ^ 62)<=j/\j<2 ^ 62/\j.toNat<=1000/\∀l H',H l=none->aF H H'->H' l=some (.lst ((List.range j.toNat).map fun i:Nat=>V.int i))->Q (.ref l) H'
theorem Ug(hd:X.A.handled=none):cZ X (.type "list") abb:=by
 symm;intro vs us Q I r h;obtain⟨p,j,rfl,hp,h1,h2,h3,q⟩:=h;obtain⟨u,rfl,ru⟩:=r.one;cases ru;obtain⟨t,u,v,e⟩:=(show cH X.prog X.w H s.heap p (.Zr 0 j) from I.hok p _ hp);have e2:Builtin.Range.rangeSize 0 j 1=(j.toNat:Nat):=by rw[rangeSize_one]; split <;> omega
 refine call_list_range (n:=j.toNat) hd (show IsRange s.heap p 0 j 1 t u v from e) (small_one ∅ ∅ h1 h2) e2 ∅ fun h' tk acc c' kp el it=>?_
 have hf:=I.hok.fresh (dM s.heap.objs.size)
 have hz:((List.range j.toNat).map fun i:Nat=>V.int i).length<=sizeLine:=by
  rw[bW,Dk,sizeLine_eq]; omega
 have vl:Vals ((List.range j.toNat).map fun i:Nat=>V.int i) acc.toList:=by
  have key:∀(n k:Nat)(l:List Value),l.length=n->(∀(i:Nat)(v:Value),l[i]?=some v->∃t,v=Value.int ((k+i:Nat):Int) t)->Vals ((List.range' k n).map fun i:Nat=>V.int i) l:=by
   intro n
   induction n with
   | zero=>
    intro k l hl _;rw[Wg.mp hl];exact .nil
   | succ n ih=>
    intro k l hl hv
    match l,hl with
    | x::l,hl=>
     obtain⟨t,rfl⟩:=hv 0 x rfl;rw[List.range'_succ];refine .cons ⟨t,rfl⟩ (ih (k+1) l (by simpa using hl) fun i v h=>?_)
     obtain⟨t,rfl⟩:=hv (i+1) v h;exact⟨t,by rw[show k+(i+1)=k+1+i by omega]⟩
  rw[List.range_eq_range'];refine key _ 0 _ (by rw[nP]; exact it.1) fun i v h=>?_
  rw[Jy] at h;obtain⟨t,rfl⟩:=it.2 i v h;exact⟨t,by simp⟩
 exact⟨.ref s.heap.objs.size,_,I.laid (a:=s.heap.objs.size) (o:=.lst ((List.range j.toNat).map fun i:Nat=>V.int i)) (t':=tk) kp (dM _) (show cH X.prog X.w _ h' _ (.lst _) from⟨hz,acc.toList,c',vl,el⟩),rfl,q _ _ hf (aM hf _) aD⟩
end
def iOr(a b:TI):TI:=fun σ H R=>a σ H R\/b σ H R
theorem PI.or{X:Cx}{tg it:Expr}{a b:TI}(h:PI X tg it a)(h':PI X tg it b):PI X tg it (iOr a b):=.mk fun ae s σ H R I q=>q.elim (h ae s σ H R I) (h' ae s σ H R I)
theorem Cg{nt:Nat}{js:List Nat}{a b:TI}{g:TG}{tc:TT}{te:TE}{σ:St}{H:Hp}{Q:VK}:fM nt js (iOr a b) g tc te σ H Q=(fM nt js a g tc te σ H Q\/fM nt js b g tc te σ H Q):=rfl
theorem ZQ{X:Cx}{K:Frag}{e e':Expr}{elts:List Expr}{x1}{tp p pos:Pos}{ta:TA}(hK:X.K=K)(hm:X.mg "zip" = none)(ha:PA X [e,e'] ta)(hg:Gl X "zip" := by rfl)(h1:cF e=true:=by rfl)(h2:cF e'=true:=by rfl) :
  PI X (.Tuple elts x1 tp) (.Call (.Name "zip" p) [e,e'] [] pos) (iOr (Q7 K ta) (XF K ta)):=.or (wO hK hm ha hg h1 h2) (ZP hK hm ha hg h1 h2)
section
variable{X:Cx}
theorem IV{xs:List V}:∀{us:List Value},Vals xs us->∀{j:Nat}{x:V},xs[j]?=some x->∃u,us[j]?=some u/\RelV x u:=by
 induction xs with
 | nil=>intro us _ j x h; simp at h
 | cons y ys ih=>
  intro us r j x h;cases r with
  | cons r1 r2=>
   cases j with
   | zero=>simp at h; subst h; exact⟨_,rfl,r1⟩
   | succ j=>simp at h; obtain⟨u,h1,h2⟩:=ih r2 h; exact⟨u,by simpa using h1,h2⟩
theorem RG{xs:List V}:∀{us:List Value},Vals xs us->∀{j:Nat}{u:Value},us[j]?=some u->∃x,xs[j]?=some x/\RelV x u:=by
 induction xs with
 | nil=>intro us r j u h; cases r; simp at h
 | cons y ys ih=>
  intro us r j x h;cases r with
  | cons r1 r2=>
   cases j with
   | zero=>simp at h; subst h; exact⟨_,rfl,r1⟩
   | succ j=>simp at h; obtain⟨u,h1,h2⟩:=ih r2 h; exact⟨u,by simpa using h1,h2⟩
end
section
variable{X:Cx}
def EKT(K:Frag)(g:TG)(tb:TS)(D:Ends)(σ:St)(vs:List V)(H1:Hp):Prop:=∃a,vs=[.ref a]/\(∃xs,cB K H1 a xs)/\∃W:Nat->Nat->St->Hp->Prop,(∃m,W 0 m σ H1)/\∀i m σ H,W i m σ H ->
 ((Uz K a).stop i H/\D.nx σ H)\/((Uz K a).go i H/\∃N:St->Hp->Prop,(∀σ' H',N σ' H'->∃m',m'<m/\W (i+1) m' σ' H')/\∀x H',(Uz K a).xj i H x H'->g x σ H' fun σ2 H2=>tb { D with nx:=N,ct:=N,bk:=D.nx } σ2 H2)
theorem Ma{K:Frag}{ta:TA}{g:TG}{tb:TS}{D:Ends}{σ:St}{H:Hp}:Aq (Nz K ta) g tb D σ H=ta σ H (EKT K g tb D σ):=rfl
theorem EKT.of{K:Frag}{g:TG}{tb:TS}{D:Ends}{σ:St}{H:Hp}{a:Addr}{xs:List V}(ha:H a=some (.tup xs))(Pv:Nat->St->Hp->Prop)(h0:Pv 0 σ H)(hl:∀i σ H',i<=xs.length->Pv i σ H'->H' a=some (.tup xs))
  (hs:∀i x σ H p,xs[i]?=some x->Pv i σ H->H p=none->g (.ref p) σ (upd H p (.tup [.int (i:Nat),x])) fun σ2 H2=>tb { D with nx:=Pv (i+1),ct:=Pv (i+1),bk:=D.nx } σ2 H2) (hd:∀σ H,Pv xs.length σ H->D.nx σ H):EKT K g tb D σ [.ref a] H:=by
 refine⟨a,rfl,⟨xs,cB.of ha⟩,fun i m σ H=>m=xs.length-i/\i<=xs.length/\Pv i σ H,⟨_,rfl,fG _,h0⟩,?_⟩;rintro i m σ H ⟨rfl,hi,p⟩;have q:cB K H a xs:=cB.of (hl i σ H hi p);by_cases hlt:i<xs.length
 ·refine .inr ⟨⟨xs,xs[i],q,gm hlt⟩,Pv (i+1),fun σ' H' p'=>⟨xs.length-(i+1),∅,rfl,hlt,p'⟩,fun x H' y=>?_⟩
  obtain⟨t,z,ht,rfl,rfl,hz⟩:=y;exact hs i z σ H t (hz xs q) p ht
 ·have e:i=xs.length:=by omega
  subst e;exact .inl ⟨⟨xs,q,rfl⟩,hd σ H p⟩
end
def acR(bs:List Bool)(j:Nat):Prop:=bs[j]?=some true/\∀m,m<j->bs[m]?≠some true
def aeB:V->List V->Hp->VK->Prop:=fun x xs H Q=>∃(p:Addr)(bs:List Bool)(j:Nat),x=.ref p/\H p=some (.lst (bs.map V.bl))/\xs=[.bl true]/\bs.length<=1000/\acR bs j/\Q (.int (j:Nat)) H
def aeD:V->List V->Hp->VK->Prop:=fun x xs H Q=>∃(p:Addr)(bs:List Bool),x=.ref p/\H p=some (.lst (bs.map V.bl))/\xs=[.bl true]/\Q (.int ((bs.countP id:Nat):Int)) H
section
variable{X:Cx}
def HQ:Value->Bool
 | .bool b=>b
 | _=>false
theorem HN{bs:List Bool}{its:List Value}(r:Vals (bs.map V.bl) its){m:Nat}{u:Value}(hm:its[m]?=some u):∃b,bs[m]?=some b/\u=.bool b:=by
 obtain⟨x,h1,h2⟩:=RG r hm;rw[g_] at h1;cases ha:bs[m]? with
 | none=>rw[ha] at h1; cases h1
 | some a=>
  rw[ha] at h1;cases h1;exact⟨a,rfl,h2⟩
theorem aby{A:Around}{s:Shared}(b:Bool):SeqAt.EqAt A s (.bool b) (.bool true) (HQ (.bool b)):=by
 have:=SeqAt.EqAt.bool_bool (A:=A) (s:=s) b true;have e:(b==true)=HQ (.bool b):=by cases b <;> rfl
 rw[e] at this;exact this
theorem M8:MtR X "list.index" aeB:=by
 intro ae s σ H x xs v us Q I rx rv h;obtain⟨p,bs,j,rfl,hp,rfl,hl,⟨hj,hno⟩,q⟩:=h;cases rx;obtain⟨u,rfl,ru⟩:=rv.one;cases(ru:u=.bool true);obtain⟨_,its,n,r,e⟩:=I.hok p _ hp
 have ee:∀y,y∈its.toArray->SeqAt.EqAt X.A.in1 s y (.bool true) (HQ y):=fun y hy=>by
  obtain⟨m,hm⟩:=Ba.mp (List.mem_toArray.mp hy);obtain⟨b,_,rfl⟩:=HN r hm;exact aby b
 obtain⟨u,hu,ru⟩:=IV r (x:=.bl true) (by rw[g_,hj]; rfl)
 cases(ru:u=.bool true);have hlt:j<its.length:=(gC.mp hu).1;have hlen:its.length=bs.length:=by rw[<- r.length,bW]
 refine call_meets PySem.F.slot_list_index ⟨_,e,rfl⟩ PySem.F.entry_list_index (PySem.F.args_list_index_2 _ _) (SeqAt.list_indexAt p its.toArray n none #[] (.bool true) HQ j (by simpa using hlt) ∅ ?_ ?_) ⟨e,ee,?_⟩
 ·have:=(gC.mp hu).2;show HQ its[j]=true;rw[this];rfl
 ·intro m hm h;have hm':m<its.length:=by simpa using hm
  obtain⟨b,h1,h2⟩:=HN r (gm hm');show HQ its[m]=false;rw[h2];show b=false;have:=hno m h;rw[h1] at this;simpa using this
 ·exact⟨.int (j:Nat),H,I.tok _,⟨_,rfl⟩,q⟩
theorem Yl:∀{bs:List Bool}{its:List Value},Vals (bs.map V.bl) its->its.countP HQ=bs.countP id
 | [],_,.nil=>rfl
 | b::bs,_,.cons r t=>by
  cases(r:_=Value.bool b);rw[List.countP_cons,List.countP_cons,Yl t];rfl
theorem M9:MtR X "list.count" aeD:=by
 intro ae s σ H x xs v us Q I rx rv h;obtain⟨p,bs,rfl,hp,rfl,q⟩:=h;cases rx;obtain⟨u,rfl,ru⟩:=rv.one;cases(ru:u=.bool true);obtain⟨_,its,n,r,e⟩:=I.hok p _ hp
 have ee:∀y,y∈its.toArray->SeqAt.EqAt X.A.in1 s y (.bool true) (HQ y):=fun y hy=>by
  obtain⟨m,hm⟩:=Ba.mp (List.mem_toArray.mp hy);obtain⟨b,_,rfl⟩:=HN r hm;exact aby b
 refine call_meets PySem.F.slot_list_count ⟨_,e,rfl⟩ PySem.F.entry_list_count (PySem.F.args_list_count_2 _ _) (SeqAt.list_countAt p its.toArray n none #[] (.bool true) HQ) ⟨e,ee,?_⟩;exact⟨.int ((bs.countP id:Nat):Int),H,I.tok _,⟨s.toks,by rw[<- Yl r]⟩,q⟩
end
section
variable{X:Cx}
end
section
variable{X:Cx}
end
end L2
namespace L2
open PySem PySem.Spec PyProof.Rows PySem.MeetsSeq3
section
variable{X:Cx}
end
end L2
namespace L2
open PySem PySem.Spec PyProof.Rows PySem.MeetsSeq3
section
variable{X:Cx}
end
end L2
namespace L2
open PySem
def qw:List Addr->Hp->Hp
 | [],H=>H
 | a::as,H=>hid a (qw as H)
theorem Hf:∀(as:List Addr)(H:Hp)(b:Addr),qw as H b=if b∈as then none else H b
 | [],H,b=>by simp[qw]
 | a::as,H,b=>by
  show hid a (qw as H) b=_;by_cases e:b=a
  ·subst e; rw[mz]; simp
  ·rw[dh e,Hf as H b];by_cases z:b∈as
   ·rw[aL z,aL (iR _ z)]
   ·rw[bD z,bD (fun y=>(bT.mp y).elim e z)]
theorem DR{as:List Addr}{H:Hp}{b:Addr}{o:HO}(h:qw as H b=some o):b∉as/\H b=some o:=by
 rw[Hf] at h;by_cases z:b∈as
 ·rw[aL z] at h; cases h
 ·rw[bD z] at h; exact⟨z,h⟩
theorem t_{as:List Addr}{H:Hp}{b:Addr}(h:b∉as):qw as H b=H b:=by rw[Hf,bD h]
theorem zE{as:List Addr}{H:Hp}:aF (qw as H) H:=fun b o h=>(DR h).2
def BJ(as:List Addr)(H H':Hp):Prop:=∀b o,b∉as->H b=some o->H' b=some o
theorem BJ.trans{as:List Addr}{H H1 H2:Hp}(x:BJ as H H1)(y:BJ as H1 H2):BJ as H H2:=fun b o n h=>y b o n (x b o n h)
theorem BJ.of{as:List Addr}{H H':Hp}(s:aF H H'):BJ as H H':=fun b o _ h=>s b o h
theorem BJ.hid{as:List Addr}{H H':Hp}(s:BJ as H H'):aF (qw as H) (qw as H'):=fun b o h=>by
 obtain⟨n,e⟩:=DR h;rw[t_ n];exact s b o n e
structure Tps(H:Hp)(as:List Addr)(N:Nat):Prop where
 tp:∀a∈as,∃n,n<=N/\Tp H a n
end L2
namespace L2
open PySem
end L2
namespace L2
open PySem PySem.Spec PyProof.Rows
abbrev Y_(h:Heap)(t1 t2:Addr):Heap:=UT (tiH h t1) t2
abbrev Y8(h:Heap)(t1 t2:Addr):Heap:=(Y_ h t1 t2).push { cls:=.type "tuple",data:=.seq #[.ref h.objs.size,.ref (tiH h t1).objs.size] }
abbrev Y6(h:Heap)(t1 t2:Addr):Heap:=(Y8 h t1 t2).push { cls:=.type "tuple",data:=.seq #[.none,.none] }
abbrev Lw(h:Heap)(t1 t2:Addr):Heap:=(Y6 h t1 t2).push { cls:=.type "zip",data:=.fields #[.none,.bool false,.bool false,.ref (Y_ h t1 t2).objs.size,.ref (Y8 h t1 t2).objs.size] }
theorem W9(t1 t2:Addr)(xs ys:Array Value):Meets (Builtin.«zip.__new__» ⟨[.type "zip",.ref t1,.ref t2],[]⟩) (fun _ R s=>s.heap.IsTuple t1 xs/\s.heap.IsList t2 ys/\R (.ok (.ret (.ref (Y6 s.heap t1 t2).objs.size))) { s with heap:=Lw s.heap t1 t2 }):=
 .of_wp fun prog w A R s z=>by
  obtain⟨hp,g,d,tk,os⟩:=s;obtain⟨hx,hy,z⟩:=z;have sub:=sub_zip;have hX:Heap.IsTuple (Shared.heap ⟨hp,g,d,tk,os⟩) t1 xs:=hx;have hY:Heap.IsList (Shared.heap ⟨tiH hp t1,g,d,tk,os⟩) t2 ys:=hy.push _
  wp_walk using Jx hX,Ay hY
  exact⟨_,rfl,z⟩
theorem Ow{prog:Program}{w:World}{A:Around}{E:Value->Shared->Prop}{s:Shared}{t1 t2:Addr}{xs ys:Array Value}{Q:Value->Shared->Prop}(hx:s.heap.IsTuple t1 xs)(hy:s.heap.IsList t2 ys)
  (q:∀h',IsZip h' (s.heap.objs.size+4) (s.heap.objs.size+2) (s.heap.objs.size+3) .none->IsPair h' (s.heap.objs.size+2) (.ref s.heap.objs.size) (.ref (s.heap.objs.size+1))->IsPair h' (s.heap.objs.size+3) .none .none ->
   h'.IsTupleIter s.heap.objs.size t1 0->h'.IsListIter (s.heap.objs.size+1) t2 0->(∀c o,s.heap.get? c=some o->h'.get? c=some o)->Q (.ref (s.heap.objs.size+4)) { s with heap:=h' }) :
  wpAny (model prog w) A (call (.type "zip") [.ref t1,.ref t2]) Q E s:=by
 have n1:(tiH s.heap t1).objs.size=s.heap.objs.size+1:=iQ ..;have n2:(Y_ s.heap t1 t2).objs.size=s.heap.objs.size+2:=by rw[iQ,n1]
 have n3:(Y8 s.heap t1 t2).objs.size=s.heap.objs.size+3:=by rw[iQ,n2]
 have n4:(Y6 s.heap t1 t2).objs.size=s.heap.objs.size+4:=by rw[iQ,n3]
 have up:∀c o,s.heap.get? c=some o->(Lw s.heap t1 t2).get? c=some o:=fun c o e=>dJ _ (dJ _ (dJ _ (dJ _ (dJ _ e))));have v5:(Lw s.heap t1 t2).get? (Y6 s.heap t1 t2).objs.size=some _:=dF _ rfl;have v4:(Lw s.heap t1 t2).get? (Y8 s.heap t1 t2).objs.size=some _:=dJ _ (dF _ rfl);have v3:(Lw s.heap t1 t2).get? (Y_ s.heap t1 t2).objs.size=some _:=dJ _ (dJ _ (dF _ rfl));have v2:(Lw s.heap t1 t2).get? (tiH s.heap t1).objs.size=some _:=dJ _ (dJ _ (dJ _ (dF _ rfl)));have v1:(Lw s.heap t1 t2).get? s.heap.objs.size=some _:=dJ _ (dJ _ (dJ _ (dJ _ (dF _ rfl))));refine callType_new F.called_zip ⋯ (F.typeCall_zip_2 _ _) (F.newCall_zip_2 _ _) (fun x=>F.args_object_init_3 x _ _) F.entry_zip_new (W9 t1 t2 xs ys) ⟨hx,hy,?_⟩
 show _/\_;rw[n2,n3,n4] at v5;rw[n1,n2] at v3;rw[n3] at v4;rw[n1] at v2;rw[n4];exact⟨⟨_,v5,rfl⟩,q _ v5 v3 v4 ⟨_,v1,rfl,rfl⟩ ⟨_,v2,rfl,rfl⟩ up⟩
abbrev abD:=Yz kT kL
section
variable{X:Cx}
def XC(K:Frag)(ta:TA):TI:=fun σ H R=>ta σ H fun vs H1=>∃a b,vs=[.ref a,.ref b]/\(∃xs,cB K H1 a xs)/\(∃ys,d7 K H1 b ys)/\R (abD K a b) H1
theorem Ww{K:Frag}{e e':Expr}{elts:List Expr}{x1}{tp p pos:Pos}{ta:TA}(hK:X.K=K)(hm:X.mg "zip" = none)(ha:PA X [e,e'] ta)(hg:Gl X "zip" := by rfl)(h1:cF e=true:=by rfl)(h2:cF e'=true:=by rfl) :
  PI X (.Tuple elts x1 tp) (.Call (.Name "zip" p) [e,e'] [] pos) (XC K ta):=by
 subst hK;symm;intro R I h;refine qY (ir I hg hm HF ?_ ⋯ ⋯)
 refine PyProof.Rows.callWith_type1 (dI (ha pos ae s σ H _ I h) fun us s1 ⟨vs,H1,I1,r1,q1⟩=>?_) (cW h1) (cU (es:=[e']) (by simp[h2]))
 obtain⟨a,b,rfl,⟨xs,hx⟩,⟨ys,hy⟩,q⟩:=q1;obtain⟨u,v,rfl,ru,rv⟩:=r1.two;cases ru;cases rv;obtain⟨us,_,pu,_⟩:=I1.tuple hx;obtain⟨ws,_,pw,_⟩:=I1.list hy;refine Ow (show s1.heap.IsTuple a us.toArray from pu) pw.isList fun h' hz hp ho h1 h2 kk=>?_;have I2:Inv X ae σ H1 { s1 with heap:=h' }:=I1.kept (t':=s1.toks) kk
 have fr:∀n,H1 (s1.heap.objs.size+n)=none:=fun n=>I1.hok.fresh (Jw _ _);have fk:∀n,g8 X ae H1 (s1.heap.objs.size+n):=fun n=>I1.rF (Jw _ _) (fr n);have ne:∀i j:Nat,i≠j->s1.heap.objs.size+i≠s1.heap.objs.size+j:=fun i j n e=>n (Qh e);refine JT hz ⟨s1.heap.objs.size+4,_,_,abD X.K a b,H1,rfl,I2,pW kT kL a b (s1.heap.objs.size+4) (s1.heap.objs.size+2) (s1.heap.objs.size+3) s1.heap.objs.size (s1.heap.objs.size+1) (ne _ _ ⋯) (ne _ _ ⋯) (ne _ _ ⋯) (ne 0 _ ⋯) (ne _ _ ⋯) (ne _ 0 ⋯) (ne _ _ ⋯) (ne 0 _ ⋯) (ne _ 0 ⋯) (ne _ _ ⋯),⟨hz,hp,⟨_,_,ho⟩,h1,h2⟩,fun c hc=>?_,q⟩
 simp only[bT,jW,or_false] at hc;rcases hc with rfl | rfl | rfl | rfl | rfl
 ·exact fk 4
 ·exact fk 2
 ·exact fk 3
 ·exact fk 0
 ·exact fk 1
end
theorem Oj{K:Frag}{nt:Nat}{g:TG}{js:List Nat}{a b:Addr}{xs ys:List V}{es:List PyData}{ta:TA}{te:TE}{σ:St}{H:Hp}{Q:VK}(τ:Nat->St)(hτ:∀i,(τ i).length=nt)(hl:∀R:List V->Hp->Prop,R [.ref a,.ref b] H->ta σ H R)(ha:H a=some (.tup xs))(hb:H b=some (.lst ys))(n1:xs.length=es.length)(n2:ys.length=es.length)(hz:es.length<=sizeLine)(hL:bJ es=true)
  (tgt:∀(i:Nat) x y p H',xs[i]?=some x->ys[i]?=some y->aF H H'->H' p=some (.tup [x,y])->∀R:St->Hp->Prop,R (τ i++cg js σ) H'->g (.ref p) (List.replicate nt none++cg js σ) H' R)
  (val:∀(i:Nat) e H',es[i]?=some e->aF H H'->∀R:VK,(∀v dH,aF H' dH->At dH e v->R v dH)->te (τ i++cg js σ) H' R)
  (fin:∀acc zs H',aF H H'->H acc=none->H' acc=some (.lst zs)->ak (hid acc H') es zs->Q (.ref acc) H'):fM nt js (XC K ta) g qL te σ H Q:=by
 refine hl _ ⟨a,b,rfl,⟨xs,cB.of ha⟩,⟨ys,d7.of hb⟩,fun acc hacc=>?_⟩;have gx:∀i,i<es.length->xs[i]?=some (xs.getD i .non):=fun i hi=>by rw[fD,gm ∅]; rfl
 have gy:∀i,i<es.length->ys[i]?=some (ys.getD i .non):=fun i hi=>by rw[fD,gm ∅]; rfl
 refine nu (es:=es) τ hτ hz hL hacc (fun i H' hi s=>⟨xs,ys,_,_,cB.of (s _ _ ha),d7.of (s _ _ hb),gx i hi,gy i hi⟩) (fun i H' v dH hi s y=>?_) (fun H' s=>⟨xs,ys,cB.of (s _ _ ha),d7.of (s _ _ hb),.inl n1.symm⟩) val fun zs H' s h1 h2=>fin acc zs H' s hacc h1 h2;obtain⟨p,x,y,fp,rfl,rfl,h1,h2⟩:=y;have q1:=h1 xs (cB.of (s _ _ ha));have q2:=h2 ys (d7.of (s _ _ hb));exact⟨aM fp _,fun R hR=>tgt i x y p _ q1 q2 (s.trans (aM fp _)) aD R hR⟩
section
variable{X:Cx}
end
section
variable{prog:Program}{w:World}{A:Around}{E:Value->Shared->Prop}{s:Shared}
theorem aaf:typeLookup (.type "list") "keys" = pure none:=by rw[typeLookup_type,builtinLookup_eq_fast]; kernel_rfl
theorem TY{a:Addr}{xs:Array Value}{k:Nat}{sl:Array (Option Value)}{Q:Option Value->Shared->Prop}(hx:s.heap.get? a=some { cls:=.type "list",dict:=none,data:=.seq xs k,slots:=sl })(hA:A.handled=none)
  (h:∀h' tk,(∀b o,s.heap.get? b=some o->h'.get? b=some o)->Q none { s with heap:=h',toks:=tk }):wpAny (model prog w) A (getAttr? (.ref a) "keys") Q E s:=by
 obtain⟨hp,g,d,tk,os⟩:=s;have hT:∀tk',(⟨hp,g,d,tk',os⟩:Shared).TypeIs (.ref a) "list" := fun _=>⟨_,hx,rfl⟩;have f1:=sub_AttributeError;have f3:=F.slot_list_getattribute.lookup;have f4:=F.slot_list_getattribute.bind (.ref a);have f5:=am_list_getattr_none;unfold getAttr? getAttrBy? getAttrBy
 repeat (any_goals (first | assumption | exact hT _ | ((with_reducible show wpAny _ _ (call (Value.builtin "list.__getattribute__") _ _) _ _ _); refine call_meets F.slot_list_getattribute (hT _) am_entry_list_getattribute (F.args_list_getattribute_2 _ _) (meets_getattribute_miss_list a xs k sl "keys" _ aaf (by decide +kernel)) ⟨hx,hA,fun h' tk' e hx'=>?_⟩) | wp_step))
 obtain⟨t',u',he⟩:=hx'.there;show wpAny _ _ (getattributeRaised _ _ _ _ _ _ _) _ _ _;unfold getattributeRaised
 repeat (any_goals (first | assumption | wp_step))
 exact h _ _ fun b o e=>hx'.keeps b o e
end
noncomputable def putAll(acc:List (PyData×V))(kvs:List (PyData×V)):List (PyData×V):=kvs.foldl (fun a p=>putK a p.1 p.2) acc
structure Rt(H:Hp)(xs:List V)(kvs:List (PyData×V)):Prop where
 n:xs.length=kvs.length
 p:∀(i:Nat)(x:V)(q:PyData×V),xs[i]?=some x->kvs[i]?=some q->∃t y,x=.ref t/\H t=some (.tup [y,q.2])/\mJ H q.1 y
theorem pU:plainId "dict.update.loop" = true:=by decide +kernel
theorem B_:entryFor table "dict.update.loop" = some Builtin.«dict.update.loop»:=entryFor_of_tree (by kernel_rfl)
theorem Wm(kvs:List (PyData×V))(k:PyData)(v:V):(putK kvs k v).length<=kvs.length+1:=by
 unfold putK;split
 ·rw[bW]; omega
 ·rw[c7]; exact dM _
section
variable{X:Cx}{ae:List (Addr×Obj)}{σ:St}
theorem Vl{p it l:Addr}{xs:List V}{kvs:List (PyData×V)}:∀(k i:Nat)(H:Hp)(s:Shared)(A:Around)(acc:List (PyData×V))(R:Result->Shared->Prop),xs.length-i=k->i<=xs.length->xs.length<=1000->A.handled=none->A.units+61<cLine->Inv X ae σ H s->nR H p acc->acc.length<=i->H l=some (.lst xs)->Rt H xs kvs->s.heap.IsListIter it l i->g8 X ae H it ->
  (∀H' s',Inv X ae σ H' s'->nR H' p (putAll acc (kvs.drop i))->(∃φ,H'=upd H p (.ext φ))->R (.ok (.ret .none)) s') ->
  wpAny (model X.prog X.w) A.in1 (Builtin.«dict.update.loop» ⟨[.ref p,.ref it,rawInt i,.none],[]⟩) (fun fin s'=>match fin with | .done f=>R (.ok f) s' | .again c'=>c'.quiet=true/\codeAny (model X.prog X.w) A c' R s') (fun e s'=>R (.error e) s') s:=by
 intro k
 induction k with
 | zero=>
  intro i H s A acc R hk hi hz hh hu I n hacc hl P hit fp q;have ei:i=xs.length:=by omega
  obtain⟨_,its,m,r,e⟩:=I.hok l _ hl;have hL:s.heap.IsList l its.toArray:=⟨_,e,rfl,_,rfl⟩;have hx:its.toArray[i]?=none:=by rw[R8,List.getElem?_eq_none_iff,<- r.length]; omega
  unfold Builtin.«dict.update.loop»;refine aY (wpAny_pyNext_list_end hh hit hL hx fun h' ex=>?_);dsimp only;unfold Builtin.Dict.addKeywords
  wp_walk
  have I':Inv X ae σ H { s with heap:=h' }:=I.turned (it:=it) (t':=s.toks) (fun b o nb eb=>ex b o nb eb) fp.1 fp.2.1 fp.2.2.2.1 fp.2.2.2.2.1 fp.2.2.2.2.2
  obtain⟨φ,hφ⟩:=n.ext;refine q H _ I' ?_ ⟨φ,?_⟩
  ·rw[ei,P.n,yI]; exact n
  ·funext b
   by_cases z:b=p
   ·rw[z,aD,hφ]
   ·rw[aP z]
 | succ k ih=>
  intro i H s A acc R hk hi hz hh hu I n hacc hl P hit fp q;obtain⟨_,its,m,r,e⟩:=I.hok l _ hl;have hL:s.heap.IsList l its.toArray:=⟨_,e,rfl,_,rfl⟩;have hxl:i<xs.length:=by omega
  obtain⟨u,hu1,ru⟩:=IV r (gm hxl);have hkl:i<kvs.length:=by rw[<- P.n]; exact hxl
  have hdr:kvs.drop i=kvs[i]::kvs.drop (i+1):=Ql hkl;obtain⟨t,y,et,ht,ky⟩:=P.p i _ _ (gm hxl) (gm hkl);generalize kvs[i]=kq at hdr ht ky;rw[et] at ru;cases ru;unfold Builtin.«dict.update.loop»;refine aY (wpAny_pyNext_list_item hit hL (by rw[R8]; exact hu1) fun h' hit' sb=>?_)
  have I':Inv X ae σ H { s with heap:=h' }:=I.turned (it:=it) (t':=s.toks) (fun b o nb eb=>(sb.2 b nb).trans eb) fp.1 fp.2.1 fp.2.2.2.1 fp.2.2.2.2.1 fp.2.2.2.2.2
  obtain⟨_,ts,rt,⟨cls,dd,data,sl⟩,e1,hc,m1,hd⟩:=I'.hok t _ ht;simp only at hc hd;subst hc hd;obtain⟨w0,w1,rfl,r0,r1⟩:=rt.two;obtain⟨b,rfl,rfl⟩:=ky.ref r0;dsimp only;have hT:({ s with heap:=h' }:Shared).TypeIs (.ref t) "tuple" := ⟨_,e1,rfl⟩
  refine aY (nO ?_);unfold Builtin.Dict.pairItems;refine aY (yF (aY (CZ hT ?_)));rw[aL ⋯]
  refine aY (qX e1 rfl (b_ ?_));obtain⟨ys,ey,rel,dd',z,hd⟩:=W4 I' n;have hl':ys.length=acc.length:=(Paired.length rel).symm;have hst:=Jd ys kq.1 b w1;refine nO (wpAny_dictSet_heap (hsz:=z) (show(bL X.prog X.w).room A.in1 by show A.units+1+60<cLine; omega) (vO I'.hok ky.1 ky.2) dd' fun h2 dd2 hs=>?_)
  obtain⟨I2,n2⟩:=W3 (t':=s.toks+(bL X.prog X.w).draws kq.1) I' ey hs dd2 (by have:=bC (n:=ys.length+1) ∅; omega) hd (KN.put rel ky.1 ky.2 r1)
  have npH:∀c,H c=none->c≠p:=fun c hc z=>by rw[z,ey] at hc; cases hc
  have nit:=npH it fp.1
  have tup:∀c zs,H c=some (.tup zs)->upd H p (U_ p (storedH ys kq.1 b w1)) c=some (.tup zs):=fun c zs hc=>by
   rw[aP (fun z=>by rw[z,ey] at hc; cases hc)]; exact hc
  refine b_ ⟨plainId_quiet pU _,codeAny_builtin B_ ?_⟩
  ·rw[Around.under_plainId pU _];refine ih (i+1) _ _ A (putK acc kq.1 kq.2) R ∅ ∅ hz hh hu I2 n2 ?_ ?_ ⟨P.n,fun j x q' h1 h2=>?_⟩ ?_ ⟨?_,fp.2⟩ ?_
   ·have:=Wm acc kq.1 kq.2; omega
   ·rw[aP (fun z=>by rw[z,ey] at hl; cases hl)]; exact hl
   ·obtain⟨t2,y2,a1,a2,a3⟩:=P.p j x q' h1 h2;exact⟨t2,y2,a1,tup _ _ a2,a3.1,At.tupS tup _ _ (lH _ a3.1.k).2.2 a3.2⟩
   ·exact Heap.IsListIter.at hit' fun o eo=>(hs.2 _ nit).trans eo
   ·rw[aP nit]; exact fp.1
   ·rintro H' s' J1 J2 ⟨φ,rfl⟩;refine q _ s' J1 ?_ ⟨φ,?_⟩
    ·rw[hdr]; exact J2
    ·funext c
     by_cases z:c=p
     ·rw[z,aD,aD]
     ·rw[aP z,aP z,aP z]
end
section
variable{X:Cx}
theorem OD(hu:X.A.units+64<cLine)(hc:X.calm=true):cZ X (.type "dict") (fun vs H Q=>∃(l:Addr)(xs:List V)(kvs:List (PyData×V)),vs=[.ref l]/\H l=some (.lst xs)/\xs.length<=1000/\Rt H xs kvs/\∀p H',H p=none->aF H H'->nR H' p (putAll [] kvs)->(∃φ,H'=upd H p (.ext φ))->Q (.ref p) H'):=by
 symm;intro vs us Q I rv h;obtain⟨l,xs,kvs,rfl,hl,hz,P,q⟩:=h;obtain⟨u,rfl,ru⟩:=rv.one;cases ru;have hh:X.A.handled=none:=I.ok.hd hc;have hf:=I.hok.fresh (dM s.heap.objs.size);have I1:=I.laid (a:=s.heap.objs.size) (o:=U_ s.heap.objs.size []) (t':=s.toks) (fun _ _ q=>dJ _ q) (dM _) (abk (W6 I.big));have n1:nR (upd H s.heap.objs.size (U_ s.heap.objs.size [])) s.heap.objs.size []:=⟨[],aD,.nil⟩;have s1:=aM hf (U_ s.heap.objs.size []);refine callType_codes (Q₁:=fun obj s₁=>obj=.ref s.heap.objs.size/\s₁={ s with heap:=s.heap.push { cls:=.type "dict",data:=.dict #[] } }) F.kt_called_dict (F.kt_typeCall_dict_1 _) F.entry_dict_init (kt_code_dict_new _ ⟨rfl,rfl⟩) ?_
 rintro obj s₁ ⟨rfl,rfl⟩;have hT:=Tf I1 n1;refine⟨hT,F.args_dict_init_2 _ _,?_⟩;unfold Builtin.«dict.__init__»;refine aY ?_;unfold Builtin.Dict.selfAndRest;refine aY (wpAny_notOrdered_dict hT ?_);show wpAny _ _ (pure (s.heap.objs.size,[Value.ref l])) _ _ _;refine b_ ?_;show wpAny _ _ (Builtin.Dict.updateFrom "dict.__init__" s.heap.objs.size (.ref l) [] .none) _ _ _;unfold Builtin.Dict.updateFrom;obtain⟨_,its,m,r,e⟩:=I1.hok l _ (s1 _ _ hl);refine aY (CZ ⟨_,e,rfl⟩ ?_);rw[aL ⋯]
 refine aY (TY e hh fun h' tk k=>?_);rw[aL ⋯]
 refine aY (qH ?_);have I2:=I1.kept (t':=tk) k;have hL:h'.IsList l its.toArray:=⟨_,k _ _ e,rfl,_,rfl⟩;refine aY (Ay hL ?_);have I3:=I2.kept (t':=tk) (h':=h'.push { cls:=.type "list_iterator",data:=.fields #[.ref l,.int 0 0] }) fun b o eb=>dJ _ eb;have fi:=I2.hok.fresh (dM h'.objs.size);refine b_ ⟨plainId_quiet pU _,codeAny_builtin B_ ?_⟩;rw[Around.under_plainId pU _];refine Vl (kvs:=kvs) xs.length 0 _ _ X.A.in1 [] _ ∅ (fG _) hz hh (by show X.A.units+1+61<cLine; omega) I3 n1 (fG _) (s1 _ _ hl) ⟨P.n,fun j x q' h1 h2=>?_⟩ ⟨_,dF _ rfl,rfl,rfl⟩ (I2.rF (dM _) fi) ?_
 ·obtain⟨t2,y2,a1,a2,a3⟩:=P.p j x q' h1 h2;exact⟨t2,y2,a1,s1 _ _ a2,a3.1,a3.2.mono s1⟩
 ·rintro H' s' J1 J2 ⟨φ,rfl⟩
  have eu:upd (upd H s.heap.objs.size (U_ s.heap.objs.size [])) s.heap.objs.size (.ext φ)=upd H s.heap.objs.size (.ext φ):=by
   funext c
   by_cases z:c=s.heap.objs.size
   ·rw[z,aD,aD]
   ·rw[aP z,aP z,aP z]
  rw[eu] at J1 J2;exact⟨rfl,.ref s.heap.objs.size,_,J1,rfl,q _ _ hf (aM hf _) J2 ⟨φ,rfl⟩⟩
end
section
variable{prog:Program}{w:World}{A:Around}{E:Value->Shared->Prop}{s:Shared}
end
section
variable{X:Cx}{ae:List (Addr×Obj)}{σ:St}{H1:Hp}{s1 s':Shared}
end
section
variable{X:Cx}
end
section
variable{X:Cx}
theorem Uh:cZ X (.type "list") (fun vs H Q=>∃(p:Addr)(ys:List V),vs=[.ref p]/\(H p=some (.lst ys)\/H p=some (.tup ys))/\∀l,H l=none->Q (.ref l) (upd H l (.lst ys))):=by
 symm;intro vs us Q I r h;obtain⟨p,ys,rfl,hp | hp,q⟩:=h
 ·exact Eg ae s σ H _ _ Q I r ⟨p,ys,rfl,hp,q⟩
 ·exact ql ae s σ H _ _ Q I r ⟨p,ys,rfl,hp,q⟩
def aeA:List V->Hp->VK->Prop:=fun vs H Q=>∃v d,vs=[v,.ty "list"]/\(∀K,qy K H v (.type (UL d)))/\Q (.bl (qI d)) H
theorem Xu:cZ X (.builtin "isinstance") aeA:=by
 symm;intro vs us Q I r h;obtain⟨v,d,rfl,hv,q⟩:=h;obtain⟨u,t,rfl,ru,rt⟩:=r.two;cases(show t=Value.type "list" from rt);exact Dy I ru (hv X.K) (Ha X.K d) fun tk=>⟨.bl (qI d),H,I.tok tk,rfl,q⟩
end
mutual
def Tr(H:Hp):PyData->V->List Addr->Prop
 | .none,v,S=>v=.non/\S=[]
 | .bool b,v,S=>v=.bl b/\S=[]
 | .int i,v,S=>v=.int i/\S=[]
 | .str x,v,S=>v=.str x/\S=[]
 | .tuple ds,v,S=>∃a xs,v=.ref a/\H a=some (.tup xs)/\aQ H ds xs S
 | .list ds,v,S=>∃a xs S',v=.ref a/\H a=some (.lst xs)/\aQ H ds xs S'/\S=a::S'
 | .dict _,_,_=>False
def aQ(H:Hp):List PyData->List V->List Addr->Prop
 | [],xs,S=>xs=[]/\S=[]
 | d::ds,xs,S=>∃x r S1 S2,xs=x::r/\Tr H d x S1/\aQ H ds r S2/\S=S1++S2
end
mutual
theorem Tr.at{H:Hp}:∀(d:PyData)(v:V)(S:List Addr),Tr H d v S->At H d v
 | .none,_,_,h=>by unfold Tr at h; unfold At; exact h.1
 | .bool _,_,_,h=>by unfold Tr at h; unfold At; exact h.1
 | .int _,_,_,h=>by unfold Tr at h; unfold At; exact h.1
 | .str _,_,_,h=>by unfold Tr at h; unfold At; exact h.1
 | .tuple ds,v,S,h=>by
  unfold Tr at h; unfold At;obtain⟨a,xs,e,h1,h2⟩:=h;exact⟨a,xs,e,h1,aQ.at ds xs S h2⟩
 | .list ds,v,S,h=>by
  unfold Tr at h; unfold At;obtain⟨a,xs,S',e,h1,h2,_⟩:=h;exact⟨a,xs,e,h1,aQ.at ds xs S' h2⟩
 | .dict _,_,_,h=>by unfold Tr at h; exact h.elim
theorem aQ.at{H:Hp}:∀(ds:List PyData)(xs:List V)(S:List Addr),aQ H ds xs S->ak H ds xs
 | [],_,_,h=>by unfold aQ at h; unfold ak; exact h.1
 | d::ds,xs,S,h=>by
  unfold aQ at h; unfold ak;obtain⟨x,r,S1,S2,e,h1,h2,_⟩:=h;exact⟨x,r,e,Tr.at d x S1 h1,aQ.at ds r S2 h2⟩
end
mutual
theorem Tr.tR{H:Hp}:∀(d:PyData)(v:V)(S:List Addr),Tr H d v S->∀b∈S,∃xs,H b=some (.lst xs)
 | .none,_,_,h,b,hb=>by unfold Tr at h; rw[h.2] at hb; cases hb
 | .bool _,_,_,h,b,hb=>by unfold Tr at h; rw[h.2] at hb; cases hb
 | .int _,_,_,h,b,hb=>by unfold Tr at h; rw[h.2] at hb; cases hb
 | .str _,_,_,h,b,hb=>by unfold Tr at h; rw[h.2] at hb; cases hb
 | .tuple ds,v,S,h,b,hb=>by
  unfold Tr at h;obtain⟨a,xs,e,h1,h2⟩:=h;exact aQ.tR ds xs S h2 b hb
 | .list ds,v,S,h,b,hb=>by
  unfold Tr at h;obtain⟨a,xs,S',e,h1,h2,rfl⟩:=h;rcases bT.mp hb with rfl | hb
  ·exact⟨_,h1⟩
  ·exact aQ.tR ds xs S' h2 b hb
 | .dict _,_,_,h,_,_=>by unfold Tr at h; exact h.elim
theorem aQ.tR{H:Hp}:∀(ds:List PyData)(xs:List V)(S:List Addr),aQ H ds xs S->∀b∈S,∃ys,H b=some (.lst ys)
 | [],_,_,h,b,hb=>by unfold aQ at h; rw[h.2] at hb; cases hb
 | d::ds,xs,S,h,b,hb=>by
  unfold aQ at h;obtain⟨x,r,S1,S2,e,h1,h2,rfl⟩:=h;rcases lE.mp hb with hb | hb
  ·exact Tr.tR d x S1 h1 b hb
  ·exact aQ.tR ds r S2 h2 b hb
end
mutual
theorem Tr.keep{H H':Hp}(k:∀b xs,H b=some (.tup xs)->H' b=some (.tup xs)):∀(d:PyData)(v:V)(S:List Addr),(∀b∈S,∀xs,H b=some (.lst xs)->H' b=some (.lst xs))->Tr H d v S->Tr H' d v S
 | .none,_,_,_,h=>by unfold Tr at h ⊢; exact h
 | .bool _,_,_,_,h=>by unfold Tr at h ⊢; exact h
 | .int _,_,_,_,h=>by unfold Tr at h ⊢; exact h
 | .str _,_,_,_,h=>by unfold Tr at h ⊢; exact h
 | .tuple ds,v,S,m,h=>by
  unfold Tr at h ⊢;obtain⟨a,xs,e,h1,h2⟩:=h;exact⟨a,xs,e,k _ _ h1,aQ.keep k ds xs S m h2⟩
 | .list ds,v,S,m,h=>by
  unfold Tr at h ⊢;obtain⟨a,xs,S',e,h1,h2,rfl⟩:=h;exact⟨a,xs,S',e,m _ jw _ h1,aQ.keep k ds xs S' (fun b hb=>m b (iR _ hb)) h2,rfl⟩
 | .dict _,_,_,_,h=>by unfold Tr at h; exact h.elim
theorem aQ.keep{H H':Hp}(k:∀b xs,H b=some (.tup xs)->H' b=some (.tup xs)):∀(ds:List PyData)(xs:List V)(S:List Addr),(∀b∈S,∀ys,H b=some (.lst ys)->H' b=some (.lst ys))->aQ H ds xs S->aQ H' ds xs S
 | [],_,_,_,h=>by unfold aQ at h ⊢; exact h
 | d::ds,xs,S,m,h=>by
  unfold aQ at h ⊢;obtain⟨x,r,S1,S2,e,h1,h2,rfl⟩:=h;exact⟨x,r,S1,S2,e,Tr.keep k d x S1 (fun b hb=>m b (Mt _ hb)) h1,aQ.keep k ds r S2 (fun b hb=>m b (i_ _ hb)) h2,rfl⟩
end
mutual
theorem Tr.kE{H:Hp}:∀(d:PyData)(v:V),L2.kE d=true->At H d v->Tr H d v []
 | .none,_,_,h=>by unfold At at h; unfold Tr; exact⟨h,rfl⟩
 | .bool _,_,_,h=>by unfold At at h; unfold Tr; exact⟨h,rfl⟩
 | .int _,_,_,h=>by unfold At at h; unfold Tr; exact⟨h,rfl⟩
 | .str _,_,_,h=>by unfold At at h; unfold Tr; exact⟨h,rfl⟩
 | .tuple ds,v,n,h=>by
  unfold At at h; unfold Tr;obtain⟨a,xs,e,h1,h2⟩:=h;exact⟨a,xs,e,h1,aQ.kE ds xs (by simpa[L2.kE] using n) h2⟩
 | .list _,_,n,_=>by simp[L2.kE] at n
 | .dict _,_,n,_=>by simp[L2.kE] at n
theorem aQ.kE{H:Hp}:∀(ds:List PyData)(xs:List V),L2.bJ ds=true->ak H ds xs->aQ H ds xs []
 | [],_,_,h=>by unfold ak at h; unfold aQ; exact⟨h,rfl⟩
 | d::ds,xs,n,h=>by
  unfold ak at h; unfold aQ;obtain⟨x,r,e,h1,h2⟩:=h;have n':L2.kE d=true/\L2.bJ ds=true:=by simpa[L2.bJ] using n
  exact⟨x,r,[],[],e,Tr.kE d x n'.1 h1,aQ.kE ds r n'.2 h2,rfl⟩
end
theorem At.qw{H:Hp}{S:List Addr}(hS:∀b∈S,∃xs,H b=some (.lst xs)){d:PyData}{v:V}(n:L2.kE d=true)(h:At H d v):At (qw S H) d v:=by
 have t:=Tr.kE d v n h;refine Tr.at d v [] (Tr.keep (fun b xs hb=>?_) d v [] (fun b hb=>by cases hb) t)
 rw[t_ fun z=>by obtain⟨ys,e⟩:=hS b z; rw[hb] at e; cases e]
 exact hb
theorem Tr.qw{H:Hp}{S S':List Addr}(hS:∀b∈S,∃xs,H b=some (.lst xs)){d:PyData}{v:V}(dis:∀b∈S',b∉S)(h:Tr H d v S'):At (qw S H) d v:=by
 refine Tr.at d v S' (Tr.keep (fun b xs hb=>?_) d v S' (fun b hb xs e=>by rw[t_ (dis b hb)]; exact e) h)
 rw[t_ fun z=>by obtain⟨ys,e⟩:=hS b z; rw[hb] at e; cases e]
 exact hb
theorem aQ.get{H:Hp}:∀{ds:List PyData}{xs:List V}{S:List Addr}{i:Nat}{x:V},aQ H ds xs S->xs[i]?=some x->∃d A B C,ds[i]?=some d/\Tr H d x B/\S=A++B++C/\aQ H (ds.take i) (xs.take i) A/\aQ H (ds.drop (i+1)) (xs.drop (i+1)) C
 | [],xs,S,i,x,h,e=>by unfold aQ at h; rw[h.1] at e; simp at e
 | d::ds,xs,S,i,x,h,e=>by
  unfold aQ at h;obtain⟨y,r,S1,S2,rfl,h1,h2,rfl⟩:=h;cases i with
  | zero=>
   have:y=x:=by simpa using e
   subst this;exact⟨d,[],S1,S2,rfl,h1,rfl,by unfold aQ; exact⟨rfl,rfl⟩,h2⟩
  | succ i=>
   obtain⟨d',A,B,C,k1,k2,k3,k4,k5⟩:=aQ.get (i:=i) (x:=x) h2 (by simpa using e)
   refine⟨d',S1++A,B,C,by simpa using k1,k2,by rw[k3]; simp[Ax],?_,by simpa using k5⟩
   show aQ H (d::ds.take i) (y::r.take i) (S1++A);unfold aQ;exact⟨y,_,S1,A,rfl,h1,k4,rfl⟩
mutual
theorem Tr.fun{H:Hp}:∀(d:PyData)(v:V)(S S':List Addr),Tr H d v S->Tr H d v S'->S=S'
 | .none,_,_,_,h,h'=>by unfold Tr at h h'; rw[h.2,h'.2]
 | .bool _,_,_,_,h,h'=>by unfold Tr at h h'; rw[h.2,h'.2]
 | .int _,_,_,_,h,h'=>by unfold Tr at h h'; rw[h.2,h'.2]
 | .str _,_,_,_,h,h'=>by unfold Tr at h h'; rw[h.2,h'.2]
 | .tuple ds,v,S,S',h,h'=>by
  unfold Tr at h h';obtain⟨a,xs,rfl,h1,h2⟩:=h;obtain⟨a',xs',e,h1',h2'⟩:=h';cases e;rw[h1] at h1';cases h1';exact aQ.fun ds xs S S' h2 h2'
 | .list ds,v,S,S',h,h'=>by
  unfold Tr at h h';obtain⟨a,xs,T,rfl,h1,h2,rfl⟩:=h;obtain⟨a',xs',T',e,h1',h2',rfl⟩:=h';cases e;rw[h1] at h1';cases h1';rw[aQ.fun ds xs T T' h2 h2']
 | .dict _,_,_,_,h,_=>by unfold Tr at h; exact h.elim
theorem aQ.fun{H:Hp}:∀(ds:List PyData)(xs:List V)(S S':List Addr),aQ H ds xs S->aQ H ds xs S'->S=S'
 | [],_,_,_,h,h'=>by unfold aQ at h h'; rw[h.2,h'.2]
 | d::ds,xs,S,S',h,h'=>by
  unfold aQ at h h';obtain⟨x,r,S1,S2,rfl,h1,h2,rfl⟩:=h;obtain⟨x',r',T1,T2,e,h1',h2',rfl⟩:=h';cases e;rw[Tr.fun d x S1 T1 h1 h1',aQ.fun ds r S2 T2 h2 h2']
end
theorem aQ.snoc{H:Hp}:∀{ds:List PyData}{xs:List V}{A B:List Addr}{d:PyData}{x:V},aQ H ds xs A->Tr H d x B->aQ H (ds++[d]) (xs++[x]) (A++B)
 | [],xs,A,B,d,x,h,t=>by
  unfold aQ at h;rw[h.1,h.2];show aQ H [d] [x] B;unfold aQ;exact⟨x,[],B,[],rfl,t,by unfold aQ; exact⟨rfl,rfl⟩,by simp⟩
 | e::ds,xs,A,B,d,x,h,t=>by
  unfold aQ at h;obtain⟨y,r,S1,S2,rfl,h1,h2,rfl⟩:=h;show aQ H (e::(ds++[d])) (y::(r++[x])) _;unfold aQ;exact⟨y,_,S1,S2++B,rfl,h1,aQ.snoc h2 t,by simp[Ax]⟩
theorem aQ.len{H:Hp}{ds:List PyData}{xs:List V}{S:List Addr}(h:aQ H ds xs S):xs.length=ds.length:=(aQ.at ds xs S h).length
theorem aQ.nil{H:Hp}:aQ H [] [] []:=by unfold aQ; exact⟨rfl,rfl⟩
theorem aQ.cons{H:Hp}{d:PyData}{ds:List PyData}{x:V}{xs:List V}{A B:List Addr}(h1:Tr H d x A)(h2:aQ H ds xs B):aQ H (d::ds) (x::xs) (A++B):=by unfold aQ; exact⟨x,xs,A,B,rfl,h1,h2,rfl⟩
theorem Tr.lst{H:Hp}{a:Addr}{xs:List V}{ds:List PyData}{S:List Addr}(h:H a=some (.lst xs))(t:aQ H ds xs S):Tr H (.list ds) (.ref a) (a::S):=by unfold Tr; exact⟨a,xs,S,rfl,h,t,rfl⟩
theorem Tr.tup{H:Hp}{a:Addr}{xs:List V}{ds:List PyData}{S:List Addr}(h:H a=some (.tup xs))(t:aQ H ds xs S):Tr H (.tuple ds) (.ref a) S:=by unfold Tr; exact⟨a,xs,rfl,h,t⟩
theorem Tr.int{H:Hp}(i:Int):Tr H (.int i) (.int i) []:=by unfold Tr; exact⟨rfl,rfl⟩
theorem Tr.str{H:Hp}(t:Str):Tr H (.str t) (.str t) []:=by unfold Tr; exact⟨rfl,rfl⟩
theorem Tr.non{H:Hp}:Tr H .none .non []:=by unfold Tr; exact⟨rfl,rfl⟩
theorem Tr.mono{H H':Hp}{d:PyData}{v:V}{S:List Addr}(h:Tr H d v S)(s:aF H H'):Tr H' d v S:=Tr.keep (fun b xs e=>s _ _ e) d v S (fun b _ xs e=>s _ _ e) h
theorem aQ.mono{H H':Hp}{ds:List PyData}{vs:List V}{S:List Addr}(h:aQ H ds vs S)(s:aF H H'):aQ H' ds vs S:=aQ.keep (fun b xs e=>s _ _ e) ds vs S (fun b _ xs e=>s _ _ e) h
theorem aQ.Zf{H:Hp}{ds:List PyData}{vs:List V}{S:List Addr}{a:Addr}{ys:List V}{o:HO}(h:aQ H ds vs S)(ha:H a=some (.lst ys))(n:a∉S):aQ (upd H a o) ds vs S:=aQ.keep (fun b xs e=>by rw[aP (fun z=>by rw[z,ha] at e; cases e)]; exact e) ds vs S (fun b hb xs e=>by rw[aP (fun z=>n (by rw[<- z]; exact hb))]; exact e) h
theorem uZ:fillsNumberSlot (.type "tuple") "mul" = pure false:=
 PySem.fillsNumberSlot_seq (id:="tuple.__mul__") (r:=some (.builtin "tuple.__rmul__")) F.slot_tuple_mul.lookup (by decide +kernel) F.slot_tuple_rmul.lookup (by decide +kernel)
theorem FZ:seqRepeat? (.type "tuple")=pure (some (.builtin "tuple.__mul__")):=by
 unfold seqRepeat?;rw[PySem.seqSlot_of (T:="tuple") (name:="__mul__") (id:="tuple.__mul__") F.slot_tuple_mul.lookup (by decide +kernel),PySem.seqSlot_of (T:="tuple") (name:="__rmul__") (id:="tuple.__rmul__") F.slot_tuple_rmul.lookup (by decide +kernel)]
 rfl
theorem ym(a:Int)(t:Tok)(l:Addr)(items:Array Value)(n:Nat)(dd:Option Addr)(sl:Array (Option Value)) :
  Meets (Builtin.«int.__rmul__» ⟨[.int a t,.ref l],[]⟩) (fun _ R s=>s.heap.get? l=some { cls:=.type "tuple",dict:=dd,data:=.seq items n,slots:=sl }/\R (.ok (.ret Value.notImplemented)) s):=
 .of_wp fun prog w A R s h=>by obtain⟨hp,g,d,tk,os⟩:=s; obtain⟨hl,h⟩:=h; wp_walk; exact⟨_,rfl,h⟩
theorem LR(l:Addr)(x:Value)(n:Nat)(u:Tok)(dd:Option Addr)(sl:Array (Option Value)) :
  Meets (Builtin.«tuple.__mul__» ⟨[.ref l,.int 3 u],[]⟩) (fun _ R s=>s.heap.get? l=some { cls:=.type "tuple",dict:=dd,data:=.seq #[x] n,slots:=sl }/\R (.ok (.ret (Value.ref s.heap.objs.size))) { s with heap:=s.heap.push { cls:=.type "tuple",data:=.seq #[x,x,x] } }):=
 .of_wp fun prog w A R s h=>by
  obtain⟨hp,g,d,tk,os⟩:=s; obtain⟨hl,h⟩:=h
  wp_walk using wpAny_loadPart' hl
  exact⟨_,rfl,h⟩
def aey:R2:=fun x y H Q=>∃(a:Addr)(v:V),x=.ref a/\y=.int 3/\H a=some (.tup [v])/\∀p H',H p=none->aF H H'->H' p=some (.tup [v,v,v])->Q (.ref p) H'
section
variable{X:Cx}
theorem QC:rR X (binaryOp .Mult) aey:=by
 symm;intro x y v u Q I rx ry h;obtain⟨a,z,rfl,rfl,ha,q⟩:=h;cases rx;obtain⟨t,rfl⟩:=ry;obtain⟨_,its,r,⟨cls,dd,data,sl⟩,e,hc,n,hd⟩:=I.hok a _ ha;simp only at hc hd;subst hc hd;obtain⟨w0,rfl,r0⟩:=r.one;refine wpAny_binaryOp_repeat_ref (T:="tuple") (U:="int") ⋯ ⟨_,e,rfl⟩ (fun s'=>typeIs_int s' 3 t) uZ F.fills_int_mul F.slot_int_rmul FZ F.slot_int_index.lookup
  (call_meets F.slot_int_rmul (typeIs_int s 3 t) F.entry_int_rmul (F.args_int_rmul_2 _ _) (ym 3 t a _ n dd sl)
   ⟨e,rfl,⟨_,e,rfl⟩,call_meets F.slot_tuple_mul ⟨_,e,rfl⟩ F.entry_tuple_mul (F.args_tuple_mul_2 _ _) (LR a w0 n t dd sl) ⟨e,?_⟩⟩)
 have fr:=I.hok.fresh (dM s.heap.objs.size);refine⟨.ref s.heap.objs.size,_,I.laid (t':=s.toks) (o:=.tup [z,z,z]) (fun b ob q=>dJ _ q) (dM _) ?_,rfl,q _ _ fr (aM fr _) aD⟩;exact⟨(show 3<=sizeLine by decide),_,.cons r0 (.cons r0 (.cons r0 .nil)),IsTup.new _ _⟩
end
theorem Hk(l:Addr)(items:Array Value)(n:Nat)(b:Addr)(items2:Array Value)(n2:Nat)(dd:Option Addr)(sl:Array (Option Value))(hs0:¬(!items.isEmpty&&Builtin.List.listTooLong (items.size+items2.size))=true)(hs1:items.size<=sizeLine)(hs2:items.size+items2.size<=sizeLine+1) :
  Meets (Builtin.«list.extend» ⟨[.ref l,.ref b],[]⟩) (fun _ R s=>s.heap.get? l=some { cls:=.type "list",dict:=none,data:=.seq items n,slots:=#[] }/\s.heap.get? b=some { cls:=.type "tuple",dict:=dd,data:=.seq items2 n2,slots:=sl }/\R (.ok (.ret Value.none)) { s with heap:=s.heap.update l (Obj.mapSeq fun x=>x++items2),toks:=s.toks }):=
 .of_wp fun prog w A R s h=>by
  obtain⟨hp,g,d,tk,os⟩:=s; obtain⟨hl,hb,h⟩:=h; have f1:=AutoSeq1.idx_int; have f2:=AutoSeq1.sub_tuple_tuple; have f3:=AutoSeq1.sub_list_list; have f4:=AutoSeq1.sub_tuple_list; have f5:=AutoSeq1.sub_list_tuple;have hz':(items++items2).size<=sizeLine+1:=by rw[Array.size_append]; exact hs2
  wp_walk using(wpAny_updateSeq hl rfl (hz:=hs1) (_hz':=hz')),wpAny_loadPart' hl,wpAny_loadPart' hb
  exact⟨_,rfl,h⟩
def Wd:V->List V->Hp->VK->Prop:=fun x vs H Q=>∃l b xs zs,x=.ref l/\vs=[.ref b]/\H l=some (.lst xs)/\H b=some (.tup zs)/\xs.length+zs.length<=sizeLine/\Q .non (upd H l (.lst (xs++zs)))
section
variable{X:Cx}
theorem M_:MtM X "list.extend" Wd:=by
 intro ae s σ H x vs v us Q I rx rv h;obtain⟨l,b,xs,zs,rfl,rfl,hH,hB,hz,q⟩:=h;cases rx;obtain⟨u,rfl,ru⟩:=rv.one;cases ru;obtain⟨z,its,n,r,hl,e⟩:=I.Xb hH;obtain⟨_,its2,r2,⟨cls,dd,data,sl⟩,e2,hc,n2,hd⟩:=I.hok b _ hB;simp only at hc hd;subst hc hd;have hl2:=r2.length;have hsz:its.toArray.size+its2.toArray.size<=sizeLine:=by rw[gq,gq]; omega
 have ae2:¬(!its.toArray.isEmpty&&Builtin.List.listTooLong (its.toArray.size+its2.toArray.size))=true:=by
  rw[W0 hsz,Bool.and_false];exact mj
 refine call_meets F.slot_list_extend ⟨_,e,rfl⟩ F.entry_list_extend (F.args_list_extend_2 _ _)
  (Hk l its.toArray n b its2.toArray n2 dd sl ae2 (by rw[gq]; omega) ∅) ⟨e,e2,?_⟩
 refine⟨.non,_,I.acD (its':=its++its2) hH e (by simp) (r.append r2) ?_,rfl,q⟩
 rw[c7];omega
end
abbrev Y9(h:Heap)(t1 t2:Addr):Heap:=tiH (UT h t1) t2
abbrev Y7(h:Heap)(t1 t2:Addr):Heap:=(Y9 h t1 t2).push { cls:=.type "tuple",data:=.seq #[.ref h.objs.size,.ref (UT h t1).objs.size] }
abbrev Y5(h:Heap)(t1 t2:Addr):Heap:=(Y7 h t1 t2).push { cls:=.type "tuple",data:=.seq #[.none,.none] }
abbrev Ls(h:Heap)(t1 t2:Addr):Heap:=(Y5 h t1 t2).push { cls:=.type "zip",data:=.fields #[.none,.bool false,.bool false,.ref (Y9 h t1 t2).objs.size,.ref (Y7 h t1 t2).objs.size] }
theorem W_(t1 t2:Addr)(xs ys:Array Value):Meets (Builtin.«zip.__new__» ⟨[.type "zip",.ref t1,.ref t2],[]⟩) (fun _ R s=>s.heap.IsList t1 xs/\s.heap.IsTuple t2 ys/\R (.ok (.ret (.ref (Y5 s.heap t1 t2).objs.size))) { s with heap:=Ls s.heap t1 t2 }):=
 .of_wp fun prog w A R s z=>by
  obtain⟨hp,g,d,tk,os⟩:=s;obtain⟨hx,hy,z⟩:=z;have sub:=sub_zip;have hX:Heap.IsList (Shared.heap ⟨hp,g,d,tk,os⟩) t1 xs:=hx;have hY:Heap.IsTuple (Shared.heap ⟨UT hp t1,g,d,tk,os⟩) t2 ys:=hy.push _
  wp_walk using Ay hX,Jx hY
  exact⟨_,rfl,z⟩
theorem Ox{prog:Program}{w:World}{A:Around}{E:Value->Shared->Prop}{s:Shared}{t1 t2:Addr}{xs ys:Array Value}{Q:Value->Shared->Prop}(hx:s.heap.IsList t1 xs)(hy:s.heap.IsTuple t2 ys)
  (q:∀h',IsZip h' (s.heap.objs.size+4) (s.heap.objs.size+2) (s.heap.objs.size+3) .none->IsPair h' (s.heap.objs.size+2) (.ref s.heap.objs.size) (.ref (s.heap.objs.size+1))->IsPair h' (s.heap.objs.size+3) .none .none ->
   h'.IsListIter s.heap.objs.size t1 0->h'.IsTupleIter (s.heap.objs.size+1) t2 0->(∀c o,s.heap.get? c=some o->h'.get? c=some o)->Q (.ref (s.heap.objs.size+4)) { s with heap:=h' }) :
  wpAny (model prog w) A (call (.type "zip") [.ref t1,.ref t2]) Q E s:=by
 have n1:(UT s.heap t1).objs.size=s.heap.objs.size+1:=iQ ..;have n2:(Y9 s.heap t1 t2).objs.size=s.heap.objs.size+2:=by rw[iQ,n1]
 have n3:(Y7 s.heap t1 t2).objs.size=s.heap.objs.size+3:=by rw[iQ,n2]
 have n4:(Y5 s.heap t1 t2).objs.size=s.heap.objs.size+4:=by rw[iQ,n3]
 have up:∀c o,s.heap.get? c=some o->(Ls s.heap t1 t2).get? c=some o:=fun c o e=>dJ _ (dJ _ (dJ _ (dJ _ (dJ _ e))));have v5:(Ls s.heap t1 t2).get? (Y5 s.heap t1 t2).objs.size=some _:=dF _ rfl;have v4:(Ls s.heap t1 t2).get? (Y7 s.heap t1 t2).objs.size=some _:=dJ _ (dF _ rfl);have v3:(Ls s.heap t1 t2).get? (Y9 s.heap t1 t2).objs.size=some _:=dJ _ (dJ _ (dF _ rfl));have v2:(Ls s.heap t1 t2).get? (UT s.heap t1).objs.size=some _:=dJ _ (dJ _ (dJ _ (dF _ rfl)));have v1:(Ls s.heap t1 t2).get? s.heap.objs.size=some _:=dJ _ (dJ _ (dJ _ (dJ _ (dF _ rfl))));refine callType_new F.called_zip ⋯ (F.typeCall_zip_2 _ _) (F.newCall_zip_2 _ _) (fun x=>F.args_object_init_3 x _ _) F.entry_zip_new (W_ t1 t2 xs ys) ⟨hx,hy,?_⟩
 show _/\_;rw[n2,n3,n4] at v5;rw[n1,n2] at v3;rw[n3] at v4;rw[n1] at v2;rw[n4];exact⟨⟨_,v5,rfl⟩,q _ v5 v3 v4 ⟨_,v1,rfl,rfl⟩ ⟨_,v2,rfl,rfl⟩ up⟩
abbrev abE:=Yz kL kT
section
variable{X:Cx}
def XD(K:Frag)(ta:TA):TI:=fun σ H R=>ta σ H fun vs H1=>∃a b,vs=[.ref a,.ref b]/\(∃xs,d7 K H1 a xs)/\(∃ys,cB K H1 b ys)/\R (abE K a b) H1
theorem J9{K:Frag}{e e':Expr}{elts:List Expr}{x1}{tp p pos:Pos}{ta:TA}(hK:X.K=K)(hm:X.mg "zip" = none)(ha:PA X [e,e'] ta)(hg:Gl X "zip" := by rfl)(h1:cF e=true:=by rfl)(h2:cF e'=true:=by rfl) :
  PI X (.Tuple elts x1 tp) (.Call (.Name "zip" p) [e,e'] [] pos) (XD K ta):=by
 subst hK;symm;intro R I h;refine qY (ir I hg hm HF ?_ ⋯ ⋯)
 refine PyProof.Rows.callWith_type1 (dI (ha pos ae s σ H _ I h) fun us s1 ⟨vs,H1,I1,r1,q1⟩=>?_) (cW h1) (cU (es:=[e']) (by simp[h2]))
 obtain⟨a,b,rfl,⟨xs,hx⟩,⟨ys,hy⟩,q⟩:=q1;obtain⟨u,v,rfl,ru,rv⟩:=r1.two;cases ru;cases rv;obtain⟨us,_,pu,_⟩:=I1.list hx;obtain⟨ws,_,pw,_⟩:=I1.tuple hy;refine Ox pu.isList (show s1.heap.IsTuple b ws.toArray from pw) fun h' hz hp ho h1 h2 kk=>?_;have I2:Inv X ae σ H1 { s1 with heap:=h' }:=I1.kept (t':=s1.toks) kk
 have fr:∀n,H1 (s1.heap.objs.size+n)=none:=fun n=>I1.hok.fresh (Jw _ _);have fk:∀n,g8 X ae H1 (s1.heap.objs.size+n):=fun n=>I1.rF (Jw _ _) (fr n);have ne:∀i j:Nat,i≠j->s1.heap.objs.size+i≠s1.heap.objs.size+j:=fun i j n e=>n (Qh e);refine JT hz ⟨s1.heap.objs.size+4,_,_,abE X.K a b,H1,rfl,I2,pW kL kT a b (s1.heap.objs.size+4) (s1.heap.objs.size+2) (s1.heap.objs.size+3) s1.heap.objs.size (s1.heap.objs.size+1) (ne _ _ ⋯) (ne _ _ ⋯) (ne _ _ ⋯) (ne 0 _ ⋯) (ne _ _ ⋯) (ne _ 0 ⋯) (ne _ _ ⋯) (ne 0 _ ⋯) (ne _ 0 ⋯) (ne _ _ ⋯),⟨hz,hp,⟨_,_,ho⟩,h1,h2⟩,fun c hc=>?_,q⟩
 simp only[bT,jW,or_false] at hc;rcases hc with rfl | rfl | rfl | rfl | rfl
 ·exact fk 4
 ·exact fk 2
 ·exact fk 3
 ·exact fk 0
 ·exact fk 1
end
theorem zT{K:Frag}{nt:Nat}{g:TG}{js:List Nat}{a b:Addr}{xs ys:List V}{es:List PyData}{ta:TA}{te:TE}{σ:St}{H:Hp}{Q:VK}(τ:Nat->St)(hτ:∀i,(τ i).length=nt)(hl:∀R:List V->Hp->Prop,R [.ref a,.ref b] H->ta σ H R)(ha:H a=some (.lst xs))(hb:H b=some (.tup ys))(n1:xs.length=es.length)(n2:ys.length=es.length)(hz:es.length<=sizeLine)(hL:bJ es=true)
  (tgt:∀(i:Nat) x y p H',xs[i]?=some x->ys[i]?=some y->aF H H'->H' p=some (.tup [x,y])->∀R:St->Hp->Prop,R (τ i++cg js σ) H'->g (.ref p) (List.replicate nt none++cg js σ) H' R)
  (val:∀(i:Nat) e H',es[i]?=some e->aF H H'->∀R:VK,(∀v dH,aF H' dH->At dH e v->R v dH)->te (τ i++cg js σ) H' R)
  (fin:∀acc zs H',aF H H'->H acc=none->H' acc=some (.lst zs)->ak (hid acc H') es zs->Q (.ref acc) H'):fM nt js (XD K ta) g qL te σ H Q:=by
 refine hl _ ⟨a,b,rfl,⟨xs,d7.of ha⟩,⟨ys,cB.of hb⟩,fun acc hacc=>?_⟩;have gx:∀i,i<es.length->xs[i]?=some (xs.getD i .non):=fun i hi=>by rw[fD,gm ∅]; rfl
 have gy:∀i,i<es.length->ys[i]?=some (ys.getD i .non):=fun i hi=>by rw[fD,gm ∅]; rfl
 refine nu (es:=es) τ hτ hz hL hacc (fun i H' hi s=>⟨xs,ys,_,_,d7.of (s _ _ ha),cB.of (s _ _ hb),gx i hi,gy i hi⟩) (fun i H' v dH hi s y=>?_) (fun H' s=>⟨xs,ys,d7.of (s _ _ ha),cB.of (s _ _ hb),.inl n1.symm⟩) val fun zs H' s h1 h2=>fin acc zs H' s hacc h1 h2;obtain⟨p,x,y,fp,rfl,rfl,h1,h2⟩:=y;have q1:=h1 xs (d7.of (s _ _ ha));have q2:=h2 ys (cB.of (s _ _ hb));exact⟨aM fp _,fun R hR=>tgt i x y p _ q1 q2 (s.trans (aM fp _)) aD R hR⟩
end L2
namespace K58
open PySem L2
def top(i:Nat):Stmt:=PySem.Challenge.pw_waithands_k58_fewest_one_by_one.main.body.getD i (.Pass ⟨0,0,0,0⟩)
abbrev xW:Stmt:=top 6
abbrev mQ:Stmt:=top 7
abbrev Mp:Stmt:=top 8
abbrev lq:Stmt:=top 9
abbrev Mm:Stmt:=top 11
abbrev oN:Stmt:=top 12
abbrev qO:Stmt:=top 13
abbrev lC:Stmt:=top 16
abbrev qR:Stmt:=top 17
abbrev Mq:Stmt:=top 19
abbrev jd:Stmt:=top 20
abbrev oV:Stmt:=top 21
abbrev kZ:Stmt:=top 22
abbrev oM:Stmt:=top 23
abbrev oW:Stmt:=top 36
abbrev oO:Stmt:=top 37
abbrev k_:Stmt:=top 38
abbrev lg:Stmt:=top 39
abbrev xV:Stmt:=top 45
abbrev xU:Stmt:=top 46
abbrev lA:Stmt:=top 47
abbrev lD:Stmt:=top 48
abbrev mV:Stmt:=top 49
abbrev xX:Stmt:=top 50
abbrev yg:Stmt:=top 51
abbrev mW:Stmt:=top 52
abbrev uG:Stmt:=top 53
abbrev oK:Stmt:=top 55
abbrev yf:Stmt:=top 56
abbrev x_:Stmt:=top 58
abbrev yd:Stmt:=top 59
abbrev qP:Stmt:=top 60
abbrev uH:Stmt:=top 61
abbrev FW:Stmt:=top 62
abbrev uI:Stmt:=top 63
abbrev jQ:Stmt:=top 64
abbrev uL:Stmt:=top 65
abbrev mR:Stmt:=top 66
abbrev xZ:Stmt:=top 67
abbrev ye:Stmt:=top 68
abbrev yc:Stmt:=top 69
abbrev sW:Stmt:=top 70
abbrev mU:Stmt:=top 71
abbrev oU:Stmt:=top 72
abbrev jE:Stmt:=top 73
abbrev jR:Stmt:=top 74
abbrev qQ:Stmt:=top 75
abbrev uK:Stmt:=top 76
abbrev uJ:Stmt:=top 77
abbrev xY:Stmt:=top 78
structure Bi(mg:Str->Option Value):Prop where
 tuple:mg "tuple" = none
 max:mg "max" = none
 min:mg "min" = none
 enumerate:mg "enumerate" = none
 zip:mg "zip" = none
 sum:mg "sum" = none
 list:mg "list" = none
 reversed:mg "reversed" = none
 range:mg "range" = none
 len:mg "len" = none
 set:mg "set" = none
 abs:mg "abs" = none
 int:mg "int" = none
 isinstance:mg "isinstance" = none
 str:mg "str" = none
 all:mg "all" = none
 bool:mg "bool" = none
 ValueError:mg "ValueError" = none
 any:mg "any" = none
 dict:mg "dict" = none
structure Co(K:Frag)(mg:Str->Option Value):Prop where
 abz:GT2 K mg "WHATS" Vj
 OVER:Gs mg "OVER" "over"
 UNDER:Gs mg "UNDER" "under"
 EACH:Gs mg "EACH" "each"
 adf:Gi mg "MOST_HANDS" 12
 HW:Gi mg "TRIPLES_SEEN" 3
 LIMIT:Gi mg "LIMIT" 300
 Er:Gi mg "MOST_COME" 23
 KEPT:Gs mg "KEPT" "kept"
 BROKEN:Gs mg "BROKEN" "broken"
local macro_rules | `(tactic| walk_at "c")=>`(tactic| exact⟨rfl,rfl,rfl,by decide +kernel,rfl,by decide +kernel,by decide +kernel⟩)
local macro_rules | `(tactic| ext)=>`(tactic| simp only[L2.start,oX,List.map_nil,jU,JN,Nat.reduceAdd,Nat.reduceSub,List.replicate,P_,JQ,oY,
 Vv,Zj,ad6,ad5,aa1,Jc,fV,Vz,Zu,Zt,Wa,Zy,if_true,if_false,jM,yr,Bool.not_false,Zx,Zw,aca,ab9,F_,ab8,Zz,ZC,Wb,Zv,ab_,aev,tC,YJ,tUn,rI0,rI,rU,O_,aed,tOr,ad_,aa5,ad9,aa0,tIf,rY,tCB,Jb,Vx,tB,abU,tSl,Pa,aaZ,ae7,ad8,aea,age,aa3,aaX,tBM,aec,ad7,aa4,ipI,aa2,abT,tFv,tJs,tJ1,tJ0,agf,VB,Vw,xPe,aaT,xIf,adZ,ad0,agc,xPs,agb,aaY,aba,aa_,abb])
section
variable{P:Program}{w:World}{K:Frag}{mg:Str->Option Value}{base:Heap}{f:Addr}{fd:FuncData}{k:Nat}
theorem yO{X:Cx}:rR X (binaryOp .FloorDiv) (rI (fun _ j=>0<j/\j<10 ^ 60) fun i j=>.int (i / j)):=opI fun i j _ _ _ _ _ hc q=>by
 have h1:(0:Int)<j:=hc.1;have h2:j<10 ^ 60:=hc.2;refine PyProof.Rows.floordiv_int ∅ (by rw[Int.fdiv_eq_ediv_of_nonneg i ∅]; exact q) (.inl (PyProof.noPylong_of_log2 ?_))
 have:j.natAbs<10 ^ 60:=by omega
 by_cases z:j.natAbs=0
 ·omega
 ·have h3:j.natAbs<2 ^ 1000:=JF this (by decide +kernel)
  have:=(Nat.log2_lt z).mpr h3;omega
structure gZ where
 w:Str
 s:Nat
 g:Str
 n:Int
 t:Int
def mX(r:gZ):PyData:=.tuple [.str r.w,.int r.s,.str r.g,.int r.n,.int r.t]
def sX(rs:List gZ):PyData:=.tuple (rs.map mX)
def qT(cQ:List (List gZ)):PyData:=.tuple (cQ.map sX)
structure qJ(r:gZ):Prop where
 w:r.w∈(["come","done","wait"]:List Str)
 s:1<=r.s/\r.s<=4
 n:0<=r.n/\r.n<=1000000000000000000000000000000
 e:r.g = "each" -> 1<=r.n
def jD(l:List Int):PyData:=.tuple (l.map .int)
def L_(dB:List (List Int)):PyData:=.tuple (dB.map jD)
structure lW(dB:List (List Int)):Prop where
 n:dB.length=4
 l:∀x∈dB,x.length=3
def lX(w:Str)(s:Nat)(dB:List (List Int)):Int:=((dB.take s).map fun l=>l.getD (d8 w) 0).sum
def says(r:gZ)(h:Int)(dB:List (List Int)):Option Int:=
 if r.g = "each" then some ((lX r.w r.s dB+r.n*r.s-1) / (r.n*r.s))
 else if(r.g = "over" /\ lX r.w r.s dB>r.n*r.s)\/(r.g = "under" /\ lX r.w r.s dB<r.n*r.s) then some (h+r.t) else none
def sV:Option Int->V
 | none=>.non
 | some i=>.int i
def fu(h:Int)(dB:List (List Int)):List gZ->Int
 | []=>h
 | r::rs=>match says r h dB with
  | some i=>i
  | none=>fu h dB rs
def topOf(h:Int):List Int->Int
 | []=>h
 | b::r=>gF b r
def iK(cQ:List (List gZ))(l m h:Int)(dB:List (List Int)):Int:=
 let x:=topOf h (cQ.map (fu h dB))
 let y:=if l>x then l else x
 if m<y then m else y
theorem ux(w:Str):d8 w<3:=by
 unfold d8;split
 ·decide
 ·split <;> decide
theorem bz{H:Hp}{ds:List PyData}{v:V}(h:At H (.tuple ds) v):∃a xs,v=.ref a/\H a=some (.tup xs)/\ak H ds xs:=by unfold At at h; exact h
theorem ak.bf{H:Hp}{d:PyData}{ds:List PyData}{xs:List V}(h:ak H (d::ds) xs):∃x r,xs=x::r/\At H d x/\ak H ds r:=by unfold ak at h; exact h
theorem ak.jP{H:Hp}{xs:List V}(h:ak H [] xs):xs=[]:=by unfold ak at h; exact h
theorem cG{G:Hp}:∀{cs:List Int}{xs:List V},ak G (cs.map PyData.int) xs->xs=cs.map V.int
 | [],xs,h=>by unfold ak at h; exact h
 | c::cs,xs,h=>by
  obtain⟨x,r,rfl,h1,h2⟩:=ak.bf h;unfold At at h1;rw[h1,cG h2]; rfl
theorem bI{H:Hp}:∀cs:List Int,ak H (cs.map .int) (cs.map V.int)
 | []=>ak.nil
 | c::cs=>ak.cons (At.int c) (bI cs)
theorem row_shape{H:Hp}{r:gZ}{v:V}(h:At H (mX r) v):∃a,v=.ref a/\H a=some (.tup [.str r.w,.int r.s,.str r.g,.int r.n,.int r.t]):=by
 obtain⟨a,xs,rfl,h1,h2⟩:=bz h;obtain⟨x1,_,rfl,a1,h2⟩:=ak.bf h2;obtain⟨x2,_,rfl,a2,h2⟩:=ak.bf h2;obtain⟨x3,_,rfl,a3,h2⟩:=ak.bf h2;obtain⟨x4,_,rfl,a4,h2⟩:=ak.bf h2;obtain⟨x5,_,rfl,a5,h2⟩:=ak.bf h2;cases ak.jP h2;unfold At at a1 a2 a3 a4 a5;subst a1 a2 a3 a4 a5;exact⟨a,rfl,h1⟩
theorem Ri{K:Frag}{js:List Nat}{a:Addr}{xs:List V}{ds:List PyData}{f:Nat->Int}{tl te:TE}{σ:St}{H:Hp}{Q:VK}(hl:∀R:VK,R (.ref a) H->tl σ H R)(ha:H a=some (.tup xs))(hd:ak H ds xs)(hz:ds.length<=sizeLine)
  (step:∀(i:Nat) x d H',aF H H'->ds[i]?=some d->At H' d x->∀R:VK,(∀dH,aF H' dH->R (.int (f i)) dH)->te (some x::cg js σ) H' R)
  (fin:∀acc H',aF H H'->H' acc=some (.lst (((List.range ds.length).map f).map V.int))->Q (.ref acc) H'):jr js (zx K tl) te σ H Q:=by
 refine hl _ ⟨a,rfl,⟨xs,cB.of ha⟩,fun acc hacc=>?_⟩;have hlen:=hd.length;refine⟨fun i m ys H2=>m=ds.length-i/\i<=ds.length/\ys=((List.range i).map f).map V.int/\aF H H2/\H2 acc=some (.lst ys),⟨_,rfl,fG _,rfl,aM hacc _,aD⟩,?_⟩;rintro i m ys H2 ⟨rfl,hi,rfl,sm,hy⟩;have ht:cB K H2 a xs:=cB.of (sm _ _ ha);by_cases hlt:i<ds.length
 ·refine .inr ⟨⟨xs,xs[i]'∅,ht,gm ∅⟩,fun x H3 y=>?_⟩
  obtain⟨e,y⟩:=y;subst e;obtain⟨d,e1,e2⟩:=hd.get (y xs ht);refine step i x d _ sm e1 (e2.mono sm) _ fun H4 s4=>⟨s4 _ _ hy,?_,ds.length-(i+1),∅,rfl,hlt,?_,?_,aD⟩
  ·rw[bW,bW,Dk]; omega
  ·rw[yG]; simp
  ·refine fun b o q=>?_;have nb:b≠acc:=bV q hacc;rw[aP nb];exact s4 _ _ (sm _ _ q)
 ·have e:i=ds.length:=by omega
  subst e;exact .inl ⟨⟨xs,ht,∅⟩,fin _ _ sm hy⟩
def CT(K:Frag)(js:List Nat)(te:TE)(σ:St)(Q:VK)(x:V)(H1:Hp):Prop:=jr js (zx K (fun _ H R=>R x H)) te σ H1 Q
theorem Ce{K:Frag}{js:List Nat}{tl te:TE}{σ:St}{H:Hp}{Q:VK}:jr js (zx K tl) te σ H Q=tl σ H (CT K js te σ Q):=rfl
def Mj:Sp:=fun vs H Q _=>∃(v u:V)(h:Int)(r:gZ)(dB:List (List Int)),vs=[v,.int h,u]/\At H (mX r) v/\At H (L_ dB) u/\qJ r/\lW dB/\∀H',aF H H'->Q (sV (says r h dB)) H'
theorem aiy.of{v u:V}{h:Int}{r:gZ}{dB:List (List Int)}{H:Hp}{Q:VK}{E:XK}(a1:At H (mX r) v)(a2:At H (L_ dB) u)(h1:qJ r)(h2:lW dB)(q:∀H',aF H H'->Q (sV (says r h dB)) H'):Mj ([v,.int h,u]++[]) H Q E:=⟨v,u,h,r,dB,rfl,a1,a2,h1,h2,q⟩
theorem Ar{dB:List (List Int)}{w:Str}{s:Nat}:((List.range (dB.take s).length).map fun i=>((dB.take s).getD i []).getD (d8 w) 0).sum=lX w s dB:=by
 unfold lX
 congr 1
 generalize dB.take s=l
 apply Dj
 ·simp
 ·intro i h1 h2;simp at h1 h2;simp[fD,h2]
theorem vB:a_ ["row","hands","newest","what","span","sign","number","step","place","total","mark"] ["row","hands","newest"] (aK qO):=(by walk_at "c")
theorem Kd(F:jc K "row_says" "row_says" qO f fd)(B:Bi mg)(O:Co K mg):bZ P w K mg base iJ (k+1) f fd ["row","hands","newest"] Mj:=by
 refine F.ok vB (by rintro vs H Q E ⟨v,u,h,r,dB,rfl,_⟩; rfl) (0:)
 obtain⟨v,u,h,r,dB,rfl,a1,a2,hR,hN,q⟩:=h;have ND:=vB.nd;refine⟨_,(aq (cJ (pv 0) (bG (K:=K) (n:=5) rfl rfl (aA (aC (i:=3)) (aA (aC (i:=4)) (aA (aC (i:=5)) (aA (aC (i:=6)) (aA (aC (i:=7)) bF))))))) (aq (aX (i:=8) (gJ (K:=K) rfl PySem.F.plainAttrs_tuple PySem.F.slot_tuple_index PySem.F.type_tuple_index (Th (K:=K) rfl) (Qu (K:=K) rfl O.abz) (aa (pv 3) aj))) (aq (aX (i:=9) (pb (qj rfl) B.sum HH (aa (tG (N':=["triple","place"]) (js:=[8]) rfl (ig (K:=K) rfl (cz eX (pv 2) dC (cN (pv 4)))) Lg.mk1 rfl ⋯ rfl (fun fp s' H'=>(bB aW (pv 0) (pv 1) (fun _ _=>rfl)))) aj))) (aq (aX (i:=10) (aO gK (pv 6) (pv 4))) (aq (cX (bj gY (pv 5) (uV O.EACH) (bh _)) (aG (aZ (aO yO (aO dX (aO bK (pv 9) (pv 10)) ao) (pv 10)))) bM) (aq (cX (PW.pt (J0 (PW.pt (Gn (bj gY (pv 5) (uV O.OVER) (bh _)) (wN (bj jy (pv 9) (pv 10) (bh _))))) (Gm (PW.pt (Gn (bj gY (pv 5) (uV O.UNDER) (bh _)) (wN (bj tK (pv 9) (pv 10) (bh _)))))))) (aG (aZ (aO bK (pv 1) (pv 7)))) bM) (aG (aZ d9)))))))),?_⟩
 obtain⟨a,rfl,h1⟩:=row_shape a1;obtain⟨b,xs,rfl,h2,h3⟩:=bz a2;ext;refine⟨a,_,rfl,cB.of h1,rfl,?_⟩;ext;intro aw ho hw;refine⟨.inr (.inl ⟨rfl,ho⟩),aw,r.w,rfl,hw _,rfl,hR.w,?_⟩;show jr _ _ _ _ _ _;rw[Ce];ext;refine⟨b,xs,rfl,h2,fun p H1 s1 e1=>?_⟩;rw[j_ ∅,uR] at e1
 have h3':ak H1 ((dB.take r.s).map jD) (xs.take r.s):=by rw[C_]; exact(h3.take r.s).mono s1
 have hs4:=hR.s;have htl:(dB.take r.s).length<=4:=by rw[jV]; omega
 refine Ri (a:=p) (f:=fun i=>((dB.take r.s).getD i []).getD (d8 r.w) 0) (fun R hR=>hR) e1 h3' (jK (bC (by rw[bW]; omega))) (fun i x d H' s' ed hx R hR'=>?_) (fun acc H' s' hl=>?_)
 ·rw[g_] at ed;obtain⟨l,el,rfl⟩:=kI.mp ed;have l3:l.length=3:=hN.l l (Qi (jx el));obtain⟨c,ys,rfl,g1,g2⟩:=bz hx;cases cG g2;show YJ _ _ _ [some _,some (.int (d8 r.w:Nat))] H' R;ext;have hw:=ux r.w;refine Ix.tup g1 (v:=.int (l.getD (d8 r.w) 0)) (bw (by rw[g_,gm ∅,fD,gm ∅]; rfl)) ?_
  have:=hR' H' (aF.refl H');have eg:(dB.take r.s).getD i []=l:=by rw[fD,el]; rfl
  rw[eg] at this;exact this
 ·have sm:=s1.trans s';rw[bW] at hl;refine⟨acc,_,rfl,.inl hl,.inr (by have:=hR.s; omega),?_⟩
  rw[Ar];have q1:=q H' sm;unfold says at q1;refine fj (fun c1=>?_) (fun c1=>?_)
  ·have c1':=uT c1;rw[aL c1'] at q1;have h1n:=hR.e c1';have hpos:0<r.n*(r.s:Int):=Int.mul_pos ∅ ∅
   have hup:r.n*(r.s:Int)<=1000000000000000000000000000000*4:=Int.mul_le_mul hR.n.2 ∅ ∅ ⋯
   exact⟨⟨hpos,Int.lt_of_le_of_lt hup ⋯⟩,q1⟩
  ·have c1':=yD c1;rw[bD c1'] at q1;generalize lX r.w r.s dB=tot at q1 ⊢;generalize r.n*(r.s:Int)=mark at q1 ⊢;by_cases o1:r.g = "over"
   ·have u1:¬r.g = "under" := by rw[o1]; decide +kernel
    rw[ju o1,aL rfl];by_cases o2:mark<tot
    ·rw[ju o2,aL rfl];rw[aL (.inl ⟨o1,o2⟩)] at q1; exact q1
    ·rw[jL o2,bD ⋯,jL u1,bD ⋯]
     rw[bD (fun z=>by rcases z with z | z; exact o2 z.2; exact u1 z.1)] at q1; exact q1
   ·rw[jL o1,bD ⋯]
    by_cases u1:r.g = "under"
    ·rw[ju u1,aL rfl];by_cases o2:tot<mark
     ·rw[ju o2,aL rfl];rw[aL (.inr ⟨u1,o2⟩)] at q1; exact q1
     ·rw[jL o2,bD ⋯]
      rw[bD (fun z=>by rcases z with z | z; exact o1 z.1; exact o2 z.2)] at q1; exact q1
    ·rw[jL u1,bD ⋯]
     rw[bD (fun z=>by rcases z with z | z; exact o1 z.1; exact u1 z.1)] at q1; exact q1
def abZ:Sp:=fun vs H Q _=>∃(v u:V)(h:Int)(rs:List gZ)(dB:List (List Int)),vs=[v,.int h,u]/\At H (sX rs) v/\At H (L_ dB) u/\(∀r∈rs,qJ r)/\lW dB/\∀H',aF H H'->Q (.int (fu h dB rs)) H'
theorem Rw.of{v u:V}{h:Int}{rs:List gZ}{dB:List (List Int)}{H:Hp}{Q:VK}{E:XK}(a1:At H (sX rs) v)(a2:At H (L_ dB) u)(h1:∀r∈rs,qJ r)(h2:lW dB)(q:∀H',aF H H'->Q (.int (fu h dB rs)) H'):abZ ([v,.int h,u]++[]) H Q E:=⟨v,u,h,rs,dB,rfl,a1,a2,h1,h2,q⟩
theorem sy:a_ ["rule","hands","newest","row","said"] ["rule","hands","newest"] (aK oN):=(by walk_at "c")
theorem Gw(F:jc K "rule_wish" "rule_wish" oN f fd)(rK:Ct P w K mg base k "row_says" ["row","hands","newest"] Mj):bZ P w K mg base iJ (k+1) f fd ["rule","hands","newest"] abZ:=by
 refine F.ok sy (by rintro vs H Q E ⟨v,u,h,r,dB,rfl,_⟩; rfl) (0:)
 obtain⟨v,u,h,rs,dB,rfl,a1,a2,hR,hN,q⟩:=h;have ND:=sy.nd;refine⟨_,(aq (fZ PassesOwn.never rfl (ig (K:=K) rfl (pv 0)) (aC (i:=3)) (aq (aX (i:=4) (pf rK hr (aa (pv 3) (aa (pv 1) (aa (pv 2) aj))))) (aG (cX (bj qd (pv 4) d9 (bh _)) (aG (aZ (pv 4))) bM)))) (aG (aZ (pv 1)))),?_⟩
 obtain⟨a,xs,rfl,h1,h2⟩:=bz a1;have hlen:=h2.length;rw[bW] at hlen;ext;rw[rW];ext;refine TK.of h1 (fun n σ H'=>∃o1 o2,σ=[some (.ref a),some (.int h),some u,o1,o2]/\aF H H'/\fu h dB (rs.drop n)=fu h dB rs) ⟨_,_,rfl,aF.refl H,rfl⟩ (fun n σ H' _ ⟨o1,o2,_,sm,_⟩=>sm _ _ h1) ?_ ?_
 ·rintro n x σ H1 hx ⟨o1,o2,rfl,sm,e⟩;obtain⟨d,e1,e2⟩:=h2.get hx;rw[g_] at e1;obtain⟨r,er,rfl⟩:=kI.mp e1
  have hn:n<rs.length:=by
   obtain⟨z,_⟩:=gC.mp er; exact z
  have ed:rs.drop n=r::rs.drop (n+1):=by
   rw[Ql hn];obtain⟨z,ez⟩:=gC.mp er;rw[ez]
  rw[ed,fu] at e;ext;refine aiy.of (e2.mono sm) (a2.mono sm) (hR r (jx er)) hN fun H2 s2=>?_;have s2:=sm.trans s2;cases es:says r h dB with
  | none=>
   rw[es] at e;refine⟨trivial,?_⟩;exact⟨_,_,rfl,s2,e⟩
  | some i=>
   rw[es] at e;refine⟨trivial,?_⟩;have e:i=fu h dB rs:=e;show Q (.int i) H2;rw[e]; exact q H2 s2
 ·rintro σ H1 ⟨o1,o2,rfl,sm,e⟩;ext;rw[hlen,yI] at e;have e:h=fu h dB rs:=e;rw[e];have:=q H1 sm;rw[<- e] at this ⊢;exact this
def Wt(d0 d1 d3 d4 d5:PyData)(l m:Int)(cQ:List (List gZ)):PyData:=.tuple [d0,d1,.tuple [.int l,.int m],d3,d4,d5,qT cQ]
def VG:Sp:=fun vs H Q _=>∃(v u:V)(h l m:Int)(d0 d1 d3 d4 d5:PyData)(cQ:List (List gZ))(dB:List (List Int)),vs=[v,.int h,u]/\At H (Wt d0 d1 d3 d4 d5 l m cQ) v/\At H (L_ dB) u/\(∀rs∈cQ,∀r∈rs,qJ r)/\cQ.length<=100/\lW dB /\
 ∀H',aF H H'->Q (.int (iK cQ l m h dB)) H'
theorem PN:a_ ["post","hands","newest","least","most","wishes","wished"] ["post","hands","newest"] (aK Mm):=(by walk_at "c")
theorem Z1(F:jc K "wish" "wish" Mm f fd)(B:Bi mg)(pJ:Ct P w K mg base k "rule_wish" ["rule","hands","newest"] abZ):bZ P w K mg base iJ (k+1) f fd ["post","hands","newest"] VG:=by
 refine F.ok PN (by rintro vs H Q E ⟨v,u,h,l,m,d0,d1,d3,d4,d5,cQ,dB,rfl,_⟩; rfl) (0:)
 obtain⟨v,u,h,l,m,d0,d1,d3,d4,d5,cQ,dB,rfl,a1,a2,hR,hn,hN,q⟩:=h;have ND:=PN.nd;refine⟨_,(aq (cJ (bB aW (pv 0) ao (fun _ _=>rfl)) (bG (K:=K) (n:=2) rfl rfl (aA (aC (i:=3)) (aA (aC (i:=4)) bF)))) (aq (Qq (i:=5) ND rfl (by walk_at "o") (N':=["rule","hands","newest"]) (js:=[1,2]) rfl (ig (K:=K) rfl (bB aW (pv 0) ao (fun _ _=>rfl))) Lg.mk2 rfl ⋯ rfl (fun fp s' H'=>(pf pJ hr (aa (pv 0) (aa (pv 1) (aa (pv 2) aj)))))) (aq (aX (i:=6) (Qw rfl B.max (aa (pv 5) aj) (pv 1))) (aG (aZ (pb (dN rfl) B.min gO (aa (pb (gG rfl) B.max jG (aa (pv 6) (aa (pv 3) aj))) (aa (pv 4) aj)))))))),?_⟩
 obtain⟨a,xs,rfl,h1,h2⟩:=bz a1;obtain⟨x0,_,rfl,b0,h2⟩:=ak.bf h2;obtain⟨x1,_,rfl,b1,h2⟩:=ak.bf h2;obtain⟨x2,_,rfl,b2,h2⟩:=ak.bf h2;obtain⟨x3,_,rfl,b3,h2⟩:=ak.bf h2;obtain⟨x4,_,rfl,b4,h2⟩:=ak.bf h2;obtain⟨x5,_,rfl,b5,h2⟩:=ak.bf h2;obtain⟨x6,_,rfl,b6,h2⟩:=ak.bf h2;cases ak.jP h2;obtain⟨c,ys,rfl,g1,g2⟩:=bz b2;obtain⟨y0,_,rfl,k0,g2⟩:=ak.bf g2;obtain⟨y1,_,rfl,k1,g2⟩:=ak.bf g2;cases ak.jP g2;unfold At at k0 k1;subst k0 k1;obtain⟨e,zs,rfl,m1,m2⟩:=bz b6;ext;refine Ix.tup h1 (bw (j:=2) rfl) ⟨c,_,rfl,cB.of g1,rfl,?_⟩;ext;rw[Ce];ext;refine Ix.tup h1 (bw (j:=6) rfl) ?_;refine Ri (a:=e) (f:=fun i=>fu h dB (cQ.getD i [])) (fun R hR=>hR) m1 m2 (jK (bC (by rw[bW]; omega))) (fun i x d H' s' ed hx R hR'=>?_) (fun acc H' s' hl=>?_)
 ·rw[g_] at ed;obtain⟨rs,el,rfl⟩:=kI.mp ed;show rY _ _ _ _ [some x,some (.int h),some u] H' R;ext;refine Rw.of hx (a2.mono s') (hR rs (jx el)) hN fun H2 s2=>?_;have:=hR' H2 s2;have eg:cQ.getD i []=rs:=by rw[fD,el]; rfl
  rw[eg] at this;exact this
 ·rw[bW] at hl
  have el:(List.range cQ.length).map (fun i=>fu h dB (cQ.getD i []))=cQ.map (fu h dB):=by
   apply Dj
   ·simp
   ·intro i h1 h2;simp at h1 h2;simp[fD,h2]
  rw[el] at hl;have q1:=q H' s';unfold iK topOf at q1;refine⟨acc,_,rfl,hl,fun en=>?_,fun b r er=>?_⟩
  ·rw[en] at q1;exact q1
  ·rw[er] at q1;exact q1
def Px:Sp:=fun vs H Q _=>∃(v x:V)(a:Addr)(r:Int)(b:Addr)(ns:List Int)(u:List V),v=.ref a/\vs=[v]/\H a=some (.tup (x::.int r::.ref b::u))/\H b=some (.tup (ns.map V.int))/\Q (.int (r+ns.sum)) H
theorem vG:a_ ["stand"] ["stand"] (aK qR):=(by walk_at "c")
theorem Kg(F:jc K "hands_of" "hands_of" qR f fd)(B:Bi mg):bZ P w K mg base iJ (k+1) f fd ["stand"] Px:=by
 refine F.ok vG (by rintro vs H Q E ⟨v,x,a,r,b,ns,u,_,rfl,_⟩; rfl) (0:)
 obtain⟨v,x,a,r,b,ns,u,rfl,rfl,h1,h2,q⟩:=h;have ND:=vG.nd;refine⟨_,(aG (aZ (aO bK (bB aW (pv 0) ao (fun _ _=>rfl)) (pb (qj rfl) B.sum HH (aa (bB aW (pv 0) ao (fun _ _=>rfl)) aj))))),?_⟩;ext;refine⟨a,_,1,_,rfl,rfl,.inr h1,bw (j:=1) rfl,?_⟩;refine⟨a,_,2,_,rfl,rfl,.inr h1,bw (j:=2) rfl,?_⟩;refine⟨b,ns,rfl,.inr h2,?_⟩;exact⟨_,_,rfl,rfl,q⟩
theorem XQ{X:Cx}:afn X (fun o i H Q=>∃(p:Addr)(xs:List V)(j:Nat)(v:V),o=.ref p/\i=.int j/\H p=some (.lst xs)/\xs[j]?=some v/\Q v H):=by
 intro ae s σ H o i ov iv Q I ro ri h;obtain⟨p,xs,j,v,rfl,rfl,hp,hv,q⟩:=h;cases ro;obtain⟨t,rfl⟩:=ri;obtain⟨its,r,pl,hz⟩:=I.list (d7.of (K:=X.K) hp);obtain⟨w,ew,rw'⟩:=r.get hv;have hl:=r.length;have hn:=zg;have hj:j<xs.length:=by obtain⟨z,_⟩:=gC.mp hv; exact z
 exact wpAny_getItem_list pl.isList ∅ ∅ (by simpa using ew) ⟨v,H,I,rw',q⟩
theorem wV{n j:Nat}(h:j<n):Xp n (j:Int)=some j:=by
 unfold Xp;rw[aL ∅,aL ∅,uR]
structure dW where
 w:Int
 r:Int
 cs:List Int
 s:Int
 t:Int
 us:List (List Int)
def nY(x:dW):PyData:=.tuple [.int x.w,.int x.r,.tuple (x.cs.map .int),.int x.s,.int x.t,.tuple (x.us.map jD)]
structure iY(x:dW):Prop where
 c:x.cs.length=5
 u:x.us.length=3
 l:∀y∈x.us,y.length=3
structure cP where
 p:Int
 m:Int
 lo:Int
 hi:Int
 a:Nat
 e:Int
 u:Int
 d:Int
 cQ:List (List gZ)
def gH(x:cP):PyData:=Wt (.int x.p) (.int x.m) (.int x.a) (.int x.e) (.tuple [.int x.u,.int x.d]) x.lo x.hi x.cQ
structure nQ(x:cP):Prop where
 a:x.a<=4
 p:0<=x.p/\x.p<=1000000000000000000
 n:x.cQ.length<=100
 g:∀rs∈x.cQ,∀r∈rs,qJ r
theorem mq{H:Hp}{x:cP}{v:V}(h:At H (gH x) v):∃a b c d,v=.ref a/\H a=some (.tup [.int x.p,.int x.m,.ref b,.int x.a,.int x.e,.ref c,.ref d])/\H c=some (.tup [.int x.u,.int x.d]):=by
 obtain⟨a,xs,rfl,h1,h2⟩:=bz h;obtain⟨x0,_,rfl,b0,h2⟩:=ak.bf h2;obtain⟨x1,_,rfl,b1,h2⟩:=ak.bf h2;obtain⟨x2,_,rfl,b2,h2⟩:=ak.bf h2;obtain⟨x3,_,rfl,b3,h2⟩:=ak.bf h2;obtain⟨x4,_,rfl,b4,h2⟩:=ak.bf h2;obtain⟨x5,_,rfl,b5,h2⟩:=ak.bf h2;obtain⟨x6,_,rfl,b6,h2⟩:=ak.bf h2;cases ak.jP h2;unfold At at b0 b1 b3 b4;subst b0 b1 b3 b4;obtain⟨b,ys,rfl,_,_⟩:=bz b2;obtain⟨c,zs,rfl,g1,g2⟩:=bz b5;obtain⟨d,ws,rfl,_,_⟩:=bz b6;obtain⟨y0,_,rfl,k0,g2⟩:=ak.bf g2;obtain⟨y1,_,rfl,k1,g2⟩:=ak.bf g2;cases ak.jP g2;unfold At at k0 k1;subst k0 k1;exact⟨a,b,c,d,rfl,h1,g1⟩
theorem iu{H:Hp}{x:dW}{v:V}(h:At H (nY x) v):∃a b c,v=.ref a/\H a=some (.tup [.int x.w,.int x.r,.ref b,.int x.s,.int x.t,.ref c])/\H b=some (.tup (x.cs.map V.int))/\At H (.tuple (x.us.map jD)) (.ref c):=by
 obtain⟨a,xs,rfl,h1,h2⟩:=bz h;obtain⟨x0,_,rfl,b0,h2⟩:=ak.bf h2;obtain⟨x1,_,rfl,b1,h2⟩:=ak.bf h2;obtain⟨x2,_,rfl,b2,h2⟩:=ak.bf h2;obtain⟨x3,_,rfl,b3,h2⟩:=ak.bf h2;obtain⟨x4,_,rfl,b4,h2⟩:=ak.bf h2;obtain⟨x5,_,rfl,b5,h2⟩:=ak.bf h2;cases ak.jP h2;unfold At at b0 b1 b3 b4;subst b0 b1 b3 b4;obtain⟨b,ys,rfl,g1,g2⟩:=bz b2;cases cG g2;obtain⟨c,zs,rfl,_,_⟩:=bz b5;exact⟨a,b,c,rfl,h1,g1,b5⟩
def mO(e s:Int):Int:=if s+1<e then s+1 else 0
def il(e s t:Int):Bool:=if s+1<e then false else decide (t=0)
def Pg:Sp:=fun vs H Q _=>∃(v:V)(x:cP)(s t:Int),vs=[v,.int s,.int t]/\At H (gH x) v/\∀p H',aF H H'->H' p=some (.tup [.int (mO x.e s),.bl (il x.e s t)])->Q (.ref p) H'
theorem kJ:a_ ["post","since","rest","every"] ["post","since","rest"] (aK jd):=(by walk_at "c")
theorem tL(F:jc K "since_and_look" "since_and_look" jd f fd):bZ P w K mg base iJ (k+1) f fd ["post","since","rest"] Pg:=by
 refine F.ok kJ (by rintro vs H Q E ⟨v,x,s,t,rfl,_⟩; rfl) (0:)
 obtain⟨v,x,sn,t,rfl,a1,q⟩:=h;have ND:=kJ.nd;refine⟨_,(aq (aX (i:=3) (bB aW (pv 0) ao (fun _ _=>rfl))) (aq (cX (bj tK (aO bK (pv 1) ao) (pv 3) (bh _)) (aG (aZ (aV (aa (aO bK (pv 1) ao) (aa jX aj))))) bM) (aG (aZ (aV (aa ao (aa (eY gY (pv 2) ao (bh _)) aj))))))),?_⟩
 obtain⟨a,b,c,d,rfl,h1,h2⟩:=mq a1;ext;refine Ix.tup h1 (bw (j:=4) rfl) ?_;ext;refine fj (fun c1=>?_) (fun c1=>?_)
 ·have c1':=uT c1;refine⟨⋯,fun p H1 f1 s1 e1=>q p H1 s1 ?_⟩
  unfold mO il;rw[aL c1',aL c1']; exact e1
 ·have c1':=yD c1;refine⟨⋯,fun p H1 f1 s1 e1=>q p H1 s1 ?_⟩
  unfold mO il;rw[bD c1',bD c1']; exact e1
def uf(x:cP)(h fr:Int)(dB:List (List Int)):Int:=if fr<iK x.cQ x.lo x.hi h dB-h then fr else iK x.cQ x.lo x.hi h dB-h
def Jl:Sp:=fun vs H Q _=>∃(v u:V)(x:cP)(h fr:Int)(dB:List (List Int)),vs=[v,.int h,u,.int fr]/\At H (gH x) v/\At H (L_ dB) u/\nQ x/\lW dB/\∀H',aF H H'->Q (.int (uf x h fr dB)) H'
theorem sO:a_ ["post","hands","newest","free"] ["post","hands","newest","free"] (aK oV):=(by walk_at "c")
theorem GC(F:jc K "change_of" "change_of" oV f fd)(B:Bi mg)(OJ:Ct P w K mg base k "wish" ["post","hands","newest"] VG):bZ P w K mg base iJ (k+1) f fd ["post","hands","newest","free"] Jl:=by
 refine F.ok sO (by rintro vs H Q E ⟨v,u,x,h,fr,dB,rfl,_⟩; rfl) (0:)
 obtain⟨v,u,x,h,fr,dB,rfl,a1,a2,hP,hN,q⟩:=h;have ND:=sO.nd;refine⟨_,(aG (aZ (pb (dN rfl) B.min gO (aa (aO dX (pf OJ hr (aa (pv 0) (aa (pv 1) (aa (pv 2) aj)))) (pv 1)) (aa (pv 3) aj))))),?_⟩;ext;refine⟨v,u,h,x.lo,x.hi,_,_,_,_,_,x.cQ,dB,rfl,a1,a2,hP.g,hP.n,hN,fun H1 s1=>?_⟩;ext;exact q H1 s1
def bx:List Int->Int->List Int×Int
 | [],n=>([],n)
 | c::cs,n=>((c-(if(bx cs n).2<c then(bx cs n).2 else c))::(bx cs n).1,(bx cs n).2-(if(bx cs n).2<c then(bx cs n).2 else c))
theorem m9:∀(cs:List Int)(n:Int),(bx cs n).1.length=cs.length
 | [],_=>rfl
 | c::cs,n=>by rw[bx,jU,jU,m9 cs n]
def VM:Sp:=fun vs H Q _=>∃(r n:Int)(b:Addr)(cs:List Int),vs=[.int r,.ref b,.int n]/\H b=some (.tup (cs.map V.int))/\cs.length<=100/\∀p b' H',aF H H'->H' p=some (.tup [.int (r-(bx cs n).2),.ref b'])->H' b'=some (.tup ((bx cs n).1.map V.int))->Q (.ref p) H'
theorem su:a_ ["ready","called","many","left","place","gone"] ["ready","called","many"] (aK oM):=(by walk_at "c")
theorem Gv(F:jc K "sent_home" "sent_home" oM f fd)(B:Bi mg):bZ P w K mg base iJ (k+1) f fd ["ready","called","many"] VM:=by
 refine F.ok su (by rintro vs H Q E ⟨r,n,b,cs,rfl,_⟩; rfl) (0:)
 obtain⟨r,n,b,cs,rfl,h1,hlen,q⟩:=h;have ND:=su.nd;refine⟨_,(aq (aX (i:=3) (pt (ql) B.list iW (aa (pv 1) aj))) (aq (fZ PassesOwn.never rfl (aci B.reversed B.range (aa (pb (jk (K:=K) rfl) B.len rP (aa (pv 3) aj)) aj)) (aC (i:=4)) (aq (aX (i:=5) (pb (dN rfl) B.min gO (aa (bB aW (pv 3) (pv 4) (fun _ _=>rfl)) (aa (pv 2) aj)))) (aq (ZG (pv 3) (pv 4) XQ (pv 5) Nx set_list) (aG (yL (i:=2) ND rfl (by walk_at "o") (pv 5) Nx))))) (aG (aZ (aV (aa (aO dX (pv 0) (pv 2)) (aa (pt (dZ) B.tuple dG (aa (pv 3) aj)) aj))))))),?_⟩
 ext;refine⟨b,_,rfl,h1,fun p1 f1=>?_⟩;have s1:=aM f1 (HO.lst (cs.map V.int));have e1:upd H p1 (HO.lst (cs.map V.int)) p1=some (.lst (cs.map V.int)):=aD;generalize upd H p1 (HO.lst (cs.map V.int))=H1 at s1 e1 ⊢;rw[Vy];ext;refine⟨p1,_,rfl,.inl (d7.of e1),?_⟩;rw[bW];refine VK'.of (n:=cs.length) rfl ∅ (fun i σ H'=>∃o4 o5:Option V,σ=[some (.int r),some (.ref b),some (.int (bx (cs.drop (cs.length-i)) n).2),some (.ref p1),o4,o5]/\H' p1=some (.lst ((cs.take (cs.length-i)++(bx (cs.drop (cs.length-i)) n).1).map V.int))/\aF H H')
  ⟨_,_,by rw[JK,yI]; rfl,by rw[JK,yI,mY]; simpa[bx] using e1,s1⟩ ?_ ?_
 ·rintro i σ H2 hi ⟨o4,o5,rfl,h2,s2⟩;obtain⟨j,ej⟩:∃j:Nat,cs.length-i=j+1:=⟨cs.length-i-1,∅⟩
  have ej2:cs.length-(i+1)=j:=by omega
  have ei:(cs.length:Int)-1-(i:Nat)=(j:Nat):=by omega
  rw[ej] at h2;rw[ei,ej,ej2];have hj:j<cs.length:=by omega
  have dj:cs.drop j=cs[j]::cs.drop (j+1):=Ql hj;have tj:cs.take (j+1)=cs.take j++[cs[j]]:=by rw[Ge,gm hj]; rfl
  rw[dj,bx];generalize bx (cs.drop (j+1)) n=gh at h2 ⊢;rw[tj] at h2;generalize cs[j]=cj at h2 ⊢;have lt:(cs.take j).length=j:=by rw[jV]; omega
  have gj:((cs.take j++[cj]++gh.1).map V.int)[j]?=some (.int cj):=by
   rw[g_,Ax,tE ∅,lt,tu]; rfl
  ext;refine Ix.lst h2 (bw gj) ?_;ext;refine⟨p1,_,j,_,rfl,rfl,h2,gj,?_⟩;ext;refine⟨p1,_,_,j,rfl,rfl,h2,wV (by rw[bW,c7,c7,lt]; show j<j+1+_; omega),?_⟩
  refine⟨_,rfl,_,_,rfl,rfl,_,_,rfl,?_,fun z o w=>?_⟩
  ·rw[aD]
   congr 2
   have e:cs.take j++[cj]++gh.1=cs.take j++(cj::gh.1):=by simp
   rw[e,iZ,iZ,List.set_append_right _ _ (by rw[bW]; omega),bW,lt,tu]
   rfl
  ·rw[aP (bV w f1)];exact s2 _ _ w
 ·rintro σ H2 ⟨o4,o5,rfl,h2,s2⟩;rw[tu,JM,List.take_zero,JQ] at h2;rw[tu,JM];ext;refine⟨p1,_,rfl,h2,fun p3 f3=>?_⟩;have s3:=aM f3 (HO.tup ((bx cs n).1.map V.int));have e3:upd H2 p3 (HO.tup ((bx cs n).1.map V.int)) p3=some (.tup ((bx cs n).1.map V.int)):=aD;generalize upd H2 p3 (HO.tup ((bx cs n).1.map V.int))=H3 at s3 e3 ⊢;refine⟨⋯,fun p4 H4 f4 s4 e4=>?_⟩
  exact q p4 p3 H4 (s2.trans (s3.trans s4)) e4 (s4 _ _ e3)
def dD(x:cP)(st:dW)(ch:Int):dW:=
 if ch=0 then st else if 0<ch then { st with cs:=st.cs.take x.a++[st.cs.getD x.a 0+ch]++st.cs.drop (x.a+1),t:=x.u }
 else { st with r:=st.r-(bx st.cs (-ch)).2,cs:=(bx st.cs (-ch)).1,t:=x.d }
def Mi:Sp:=fun vs H Q _=>∃(v u:V)(x:cP)(st:dW)(ch:Int),vs=[v,u,.int ch]/\At H (gH x) v/\At H (nY st) u/\nQ x/\iY st/\∀u' H',aF H H'->At H' (nY (dD x st ch)) u'->Q u' H'
theorem n_:a_ ["post","stand","change","late","rests","wait","ready","called","since","rest","seen"] ["post","stand","change"] (aK kZ):=(by walk_at "c")
theorem yP(F:jc K "with_change" "with_change" kZ f fd)(B:Bi mg)(pI:Ct P w K mg base k "sent_home" ["ready","called","many"] VM):bZ P w K mg base iJ (k+1) f fd ["post","stand","change"] Mi:=by
 refine F.ok n_ (by rintro vs H Q E ⟨v,u,x,st,ch,rfl,_⟩; rfl) (0:)
 obtain⟨v,u,x,st,ch,rfl,a1,a2,hP,hS,q⟩:=h;have ND:=n_.nd;refine⟨_,(aq (cX (bj gY (pv 2) ao (bh _)) (aG (aZ (pv 1))) bM) (aq (uU (i:=3) (j:=4) rfl ND rfl rfl ⋯ rfl rfl (aa (bB aW (pv 0) ao (fun _ _=>rfl)) (aa (bB aW (pv 0) ao (fun _ _=>rfl)) aj)) (by rfl)) (aq (cJ (pv 1) (bG (K:=K) (n:=6) rfl rfl (aA (aC (i:=5)) (aA (aC (i:=6)) (aA (aC (i:=7)) (aA (aC (i:=8)) (aA (aC (i:=9)) (aA (aC (i:=10)) bF)))))))) (aq (cX (bj jy (pv 2) ao (bh _)) (aq (aX (i:=7) (aO jn (aO jn (cz eX (pv 7) dC (cN (pv 3))) (aV (aa (aO bK (bB aW (pv 7) (pv 3) (fun _ _=>rfl)) (pv 2)) aj))) (cz eX (pv 7) (cN (aO bK (pv 3) ao)) dC))) (aG (aX (i:=9) (bB aW (pv 4) ao (fun _ _=>rfl))))) (aq (cJ (pf pI hr (aa (pv 6) (aa (pv 7) (aa (Ds uy (pv 2)) aj)))) (bG (K:=K) (n:=2) rfl rfl (aA (aC (i:=6)) (aA (aC (i:=7)) bF)))) (aG (aX (i:=9) (bB aW (pv 4) ao (fun _ _=>rfl)))))) (aG (aZ (aV (aa (pv 5) (aa (pv 6) (aa (pv 7) (aa (pv 8) (aa (pv 9) (aa (pv 10) aj))))))))))))),?_⟩
 ext;refine fj (fun c1=>?_) (fun c1=>?_)
 ·have:=q u H (aF.refl H);unfold dD at this;rw[aL (uT c1)] at this;exact this a2
 have c1':=yD c1;obtain⟨pa,pb,pc,pd,rfl,p1,p2⟩:=mq a1;obtain⟨sa,sb,sc,rfl,g1,g2,g3⟩:=iu a2;have ha4:=hP.a;have hc5:=hS.c;refine Ix.tup p1 (bw (j:=3) rfl) (Ix.tup p1 (bw (j:=5) rfl) ⟨_,_,rfl,?_⟩);refine⟨sa,_,rfl,cB.of g1,rfl,?_⟩;ext;refine fj (fun c2=>?_) (fun c2=>?_)
 ·have c2':=uT c2
  have ga:(st.cs.map V.int)[x.a]?=some (.int (st.cs.getD x.a 0)):=by
   rw[g_,gm ∅,fD,gm ∅]; rfl
  refine⟨sb,_,rfl,g2,fun p3 H3 s3 e3=>?_⟩;rw[j_ ∅,uR] at e3
  refine Ix.tup (s3 _ _ g2) (bw ga) ?_;ext;refine⟨⋯,fun p4 H4 f4 s4 e4=>?_⟩
  refine⟨p3,p4,_,_,rfl,rfl,s4 _ _ e3,e4,jK (bC (by simp; omega)),fun p5 H5 s5 e5=>?_⟩
  ext;have s35:=s3.trans (s4.trans s5);refine⟨sb,_,rfl,s35 _ _ g2,fun p6 H6 s6 e6=>?_⟩;rw[kj ∅] at e6
  refine⟨p5,p6,_,_,rfl,rfl,s6 _ _ e5,e6,jK (bC (by simp; omega)),fun p7 H7 s7 e7=>?_⟩
  have s37:=s35.trans (s6.trans s7);ext;refine Ix.tup (s37 _ _ p2) (bw (j:=0) rfl) ⟨⋯,fun p8 H8 f8 s8 e8=>?_⟩
  have s38:=s37.trans s8;refine q (.ref p8) H8 s38 ?_;unfold dD;rw[bD c1',aL c2'];refine At.tup e8 (ak.cons (At.int _) (ak.cons (At.int _) (ak.cons (At.tup (s8 _ _ e7) ?_) (ak.cons (At.int _) (ak.cons (At.int _) (ak.cons (g3.mono s38) ak.nil))))));have e:(((x.a:Int)+1).toNat)=x.a+1:=by omega
  rw[e];have:=bI (H:=H8) (st.cs.take x.a++[st.cs.getD x.a 0+ch]++st.cs.drop (x.a+1));simpa using this
 ·have c2':=yD c2;refine⟨st.r,-ch,sb,st.cs,rfl,g2,∅,fun p3 b3 H3 s3 e3 e4=>?_⟩
  refine⟨p3,_,rfl,cB.of e3,rfl,?_⟩;ext;refine Ix.tup (s3 _ _ p2) (bw (j:=1) rfl) ⟨⋯,fun p8 H8 f8 s8 e8=>?_⟩
  have s38:=s3.trans s8;refine q (.ref p8) H8 s38 ?_;unfold dD;rw[bD c1',bD ∅]
  exact At.tup e8 (ak.cons (At.int _) (ak.cons (At.int _) (ak.cons (At.tup (s8 _ _ e4) (bI _)) (ak.cons (At.int _) (ak.cons (At.int _) (ak.cons (g3.mono s38) ak.nil))))))
def bU(x:cP)(st:dW)(come:Int):Int:=if(if 0>x.m-st.w then 0 else x.m-st.w)<come then(if 0>x.m-st.w then 0 else x.m-st.w) else come
def cR(st:dW):Int:=st.r+st.cs.getD 0 0
def fK(x:cP)(st:dW)(come:Int):Int:=if cR st*x.p<st.w+bU x st come then cR st*x.p else st.w+bU x st come
def cO(x:cP)(st:dW)(come:Int):List (List Int):=[come,fK x st come,st.w+bU x st come-fK x st come]::st.us
def dR(x:cP)(st:dW)(come:Int):dW:=⟨st.w+bU x st come-fK x st come,cR st,st.cs.drop 1++[0],mO x.e st.s,if 0>st.t-1 then 0 else st.t-1,(cO x st come).take 3⟩
def mK(x:cP)(st:dW)(come fr:Int):Int:=if il x.e st.s st.t=true then uf x (cR st+(st.cs.drop 1++[0]).sum) fr (cO x st come) else 0
def V3:Sp:=fun vs H Q _=>∃(v u:V)(x:cP)(st:dW)(come fr:Int),vs=[v,u,.int come,.int fr]/\At H (gH x) v/\At H (nY st) u/\nQ x/\iY st /\
 ∀p u' H',aF H H'->At H' (nY (dD x (dR x st come) (mK x st come fr))) u'->H' p=some (.tup [u',.int (fK x st come),.int (come-bU x st come),.int (mK x st come fr)])->Q (.ref p) H'
theorem P0:a_ ["post","stand","come","free","pace","room","wait","ready","called","since","rest","seen","taken","done","newest","looks","moved","change"] ["post","stand","come","free"] (aK Mq):=(by walk_at "c")
theorem Kq{x:cP}{st:dW}{come:Int}(h:iY st):iY (dR x st come):=by
 refine⟨?_,?_,fun y hy=>?_⟩
 ·show(st.cs.drop 1++[0]).length=5;have:=h.c;simp; omega
 ·show((cO x st come).take 3).length=3;have:=h.u;unfold cO;simp; omega
 ·have hy:=Qi hy;unfold cO at hy;rcases bT.mp hy with z | z
  ·rw[z]; rfl
  ·exact h.l y z
theorem Z3{T:Addr}{tk:Tok}(F:Aj K "beat" "beat" Mq f fd T 12 tk)(B:Bi mg)(O:Co K mg)(jl:Ct P w K mg base k "since_and_look" ["post","since","rest"] Pg)(pL:Ct P w K mg base k "change_of" ["post","hands","newest","free"] Jl)(rN:Ct P w K mg base k "hands_of" ["stand"] Px)
  (lM:Ct P w K mg base k "with_change" ["post","stand","change"] Mi):bZ P w K mg base iJ (k+1) f fd ["post","stand","come","free"] V3:=by
 refine F.ok P0 (by rintro vs H Q E ⟨v,u,x,st,come,fr,rfl,_⟩; rfl) (0:)
 obtain⟨v,u,x,st,come,fr,rfl,a1,a2,hP,hS,q⟩:=h;have ND:=P0.nd;refine⟨_,(aq (cJ (cz eX (pv 0) dC (cN ao)) (bG (K:=K) (n:=2) rfl rfl (aA (aC (i:=4)) (aA (aC (i:=5)) bF)))) (aq (cJ (pv 1) (bG (K:=K) (n:=6) rfl rfl (aA (aC (i:=6)) (aA (aC (i:=7)) (aA (aC (i:=8)) (aA (aC (i:=9)) (aA (aC (i:=10)) (aA (aC (i:=11)) bF)))))))) (aq (yL (i:=7) ND rfl (by walk_at "o") (bB aW (pv 8) ao (fun _ _=>rfl)) Ny) (aq (aX (i:=8) (aO jn (cz eX (pv 8) (cN ao) dC) (aV (aa ao aj)))) (aq (aX (i:=12) (pb (dN rfl) B.min gO (aa (pv 2) (aa (pb (gG rfl) B.max jG (aa (aO dX (pv 5) (pv 6)) (aa ao aj))) aj)))) (aq (yL (i:=6) ND rfl (by walk_at "o") (pv 12) Ny) (aq (aX (i:=13) (pb (dN rfl) B.min gO (aa (pv 6) (aa (aO gK (pv 7) (pv 4)) aj)))) (aq (yL (i:=6) ND rfl (by walk_at "o") (pv 13) Nx) (aq (aX (i:=14) (aO jn (aV (aa (aV (aa (pv 2) (aa (pv 13) (aa (pv 6) aj)))) aj)) (pv 11))) (aq (cJ (pf jl hr (aa (pv 0) (aa (pv 9) (aa (pv 10) aj)))) (bG (K:=K) (n:=2) rfl rfl (aA (aC (i:=9)) (aA (aC (i:=15)) bF)))) (aq (aX (i:=16) (aV (aa (pv 6) (aa (pv 7) (aa (pv 8) (aa (pv 9) (aa (pb (gG rfl) B.max jG (aa (aO dX (pv 10) ao) (aa ao aj))) (aa (cz eX (pv 14) dC (cN (My O.HW))) aj)))))))) (aq (aX (i:=17) (cM (fY (pv 15)) (pf pL hr (aa (pv 0) (aa (pf rN hr (aa (pv 16) aj)) (aa (pv 14) (aa (pv 3) aj))))) ao)) (aG (aZ (aV (aa (pf lM hr (aa (pv 0) (aa (pv 16) (aa (pv 17) aj)))) (aa (pv 13) (aa (aO dX (pv 2) (pv 12)) (aa (pv 17) aj))))))))))))))))))),?_⟩
 obtain⟨pa,pb,pc,pd,rfl,p1,p2⟩:=mq a1;obtain⟨sa,sb,sc,rfl,g1,g2,g3⟩:=iu a2;have hc5:=hS.c;have hpp:=hP.p
 have gc0:(st.cs.map V.int)[0]?=some (.int (st.cs.getD 0 0)):=by
  rw[g_,gm ∅,fD,gm ∅]; rfl
 ext;refine⟨pa,_,rfl,p1,fun q1 H1 s1 e1=>?_⟩;rw[j_ ⋯] at e1
 replace e1:H1 q1=some (.tup [.int x.p,.int x.m]):=e1
 refine⟨q1,_,rfl,cB.of e1,rfl,?_⟩;ext;refine⟨sa,_,rfl,cB.of (s1 _ _ g1),rfl,?_⟩;ext;refine⟨_,rfl,Ix.tup (s1 _ _ g2) (bw gc0) ⟨_,_,rfl,rfl,?_⟩⟩;refine⟨sb,_,rfl,s1 _ _ g2,fun q2 H2 s2 e2=>?_⟩;rw[kj ⋯] at e2
 have s12:=s1.trans s2;refine⟨⋯,fun q3 H3 f3 s3 e3=>?_⟩
 refine⟨q2,q3,_,_,rfl,rfl,s3 _ _ e2,e3,jK (bC (by simp; omega)),fun q4 H4 s4 e4=>?_⟩
 have V_:=s12.trans (s3.trans s4);ext;refine⟨_,rfl,_,_,rfl,rfl,.inr ∅,_,rfl,_,_,rfl,rfl,⋯,fun q5 H5 f5 s5 e5=>⟨⋯,fun q6 H6 f6 s6 e6=>?_⟩⟩
 replace e5:H5 q5=some (.tup [.int come,.int (fK x st come),.int (st.w+bU x st come-fK x st come)]):=e5
 obtain⟨sc',us',ec,gu,au⟩:=bz g3;cases ec;have Al:=V_.trans (s5.trans s6);have lus:us'.length=3:=by have:=au.length; rw[bW,hS.u] at this; exact this
 refine⟨q6,sc,_,_,rfl,rfl,e6,Al _ _ gu,jK (bC (by simp; omega)),fun q7 H7 s7 e7=>?_⟩
 have s17:=Al.trans s7;have a7:At H7 (L_ (cO x st come)) (.ref q7):=At.tup e7 (ak.cons (At.tup ((s6.trans s7) _ _ e5) (bI [come,fK x st come,st.w+bU x st come-fK x st come])) (au.mono s17))
 have hN:lW (cO x st come):=⟨by show st.us.length+1=4; rw[hS.u],fun y hy=>by
  rcases bT.mp hy with z | z
  ·rw[z]; rfl
  ·exact hS.l y z⟩
 refine⟨.ref pa,x,st.s,st.t,rfl,a1.mono s17,fun q8 H8 s8 e8=>?_⟩;refine⟨q8,_,rfl,cB.of e8,rfl,?_⟩;ext;have s18:=s17.trans s8;obtain⟨q7',nws,en,gn,an⟩:=bz (a7.mono s8);cases en;refine⟨q7,_,rfl,gn,fun q9 H9 s9 e9=>?_⟩;rw[j_ ⋯] at e9
 have s19:=s18.trans s9;refine⟨⋯,fun q10 Am YM uM e10=>?_⟩
 have aeu:=s19.trans uM;have e4':H4 q4=some (.tup ((st.cs.drop 1++[0]).map V.int)):=by rw[e4]; simp
 have aeq:aF H4 Am:=s5.trans (s6.trans (s7.trans (s8.trans (s9.trans uM))))
 have am:At Am (nY (dR x st come)) (.ref q10):=by
  refine At.tup e10 (ak.cons (At.int _) (ak.cons (At.int _) (ak.cons (At.tup (aeq _ _ e4') (bI _)) (ak.cons (At.int _) (ak.cons (At.int _) (ak.cons (At.tup (uM _ _ e9) ?_) ak.nil))))));show ak Am (((cO x st come).take 3).map jD) _;rw[C_];exact(an.take 3).mono (s9.trans uM)
 have fin:∀(c:Int)(wJ:Hp),mK x st come fr=c->aF Am wJ->Mi [.ref pa,.ref q10,.int c] wJ (fun y H1=>4<=sizeLine/\∀p H',H1 p=none->aF H1 H'->H' p=some (.tup [y,.int (fK x st come),.int (come-bU x st come),.int c])->Q (.ref p) H') E0:=fun c wJ ec yh=>by
  subst ec;have aet:=aeu.trans yh;exact⟨.ref pa,.ref q10,x,dR x st come,_,rfl,a1.mono aet,am.mono yh,hP,Kq hS,fun u' H12 agq a12=>⟨⋯,fun q13 YD f13 pY U4=>q q13 u' YD (aet.trans (agq.trans pY)) (a12.mono pY) U4⟩⟩
 refine fj (fun c1=>?_) (fun c1=>?_)
 ·refine⟨.ref q10,_,q10,cR st,q4,st.cs.drop 1++[0],_,rfl,rfl,e10,aeq _ _ e4',?_⟩;refine⟨.ref pa,.ref q7,x,_,fr,cO x st come,rfl,a1.mono aeu,a7.mono (s8.trans (s9.trans uM)),hP,hN,fun wJ yh=>?_⟩;exact fin _ wJ (by unfold mK; rw[aL c1]) yh
 ·exact fin 0 Am (by unfold mK; rw[bD (by rw[c1]; decide)]) (aF.refl _)
local macro_rules | `(tactic| walk_at "cap")=>`(tactic| simp only[cg,oX,List.map_nil,List.getElem?_cons_zero,Wf,Option.join_some])
def gb:List gZ->Str->Int
 | [],_=>0
 | r::rs,w=>if r.w=w/\gb rs w<(r.s:Int)-1 then(r.s:Int)-1 else gb rs w
structure Ak(rs:List gZ)(w:Str)(v:Int):Prop where
 z:0<=v
 le:∀r∈rs,r.w=w->(r.s:Int)-1<=v
 at':v=0\/∃r∈rs,r.w=w/\(r.s:Int)-1=v
theorem Ak.one{rs:List gZ}{w:Str}{v u:Int}(h:Ak rs w v)(k:Ak rs w u):v=u:=by
 have h1:v<=u:=by
  rcases h.at' with z | ⟨r,hr,e,z⟩
  ·have:=k.z; omega
  ·have:=k.le r hr e; omega
 have h2:u<=v:=by
  rcases k.at' with z | ⟨r,hr,e,z⟩
  ·have:=h.z; omega
  ·have:=h.le r hr e; omega
 omega
theorem pN:∀(rs:List gZ)(w:Str),Ak rs w (gb rs w)
 | [],w=>⟨sZ 0,by simp,.inl rfl⟩
 | r::rs,w=>by
  have ih:=pN rs w;have e:gb (r::rs) w=if r.w=w/\gb rs w<(r.s:Int)-1 then(r.s:Int)-1 else gb rs w:=rfl
  rw[e];have z:=ih.z;by_cases c:r.w=w/\gb rs w<(r.s:Int)-1
  ·rw[aL c];refine⟨∅,fun x hx hw=>?_,.inr ⟨r,jw,c.1,rfl⟩⟩
   rcases bT.mp hx with y | y
   ·rw[y]; exact sZ _
   ·have:=ih.le x y hw; omega
  ·rw[bD c];refine⟨z,fun x hx hw=>?_,?_⟩
   ·rcases bT.mp hx with y | y
    ·subst y;have:¬gb rs w<(x.s:Int)-1:=fun q=>c ⟨hw,q⟩;omega
    ·exact ih.le x y hw
   ·rcases ih.at' with y | ⟨x,hx,e1,e2⟩
    ·exact .inl y
    ·exact .inr ⟨x,iR _ hx,e1,e2⟩
def fH(x:cP):List Int:=[gb x.cQ.flatten "come",gb x.cQ.flatten "done",gb x.cQ.flatten "wait"]
theorem GX:∀(r:List Int)(b:Int),(∀y∈b::r,y<=gF b r)/\gF b r∈b::r
 | [],b=>⟨fun y hy=>by rw[fP.mp hy]; exact sZ _,fP.mpr rfl⟩
 | c::r,b=>by
  have ih:=GX r (if c>b then c else b)
  have e:gF b (c::r)=gF (if c>b then c else b) r:=rfl
  rw[e];obtain⟨h1,h2⟩:=ih;have hb:=h1 _ jw
  have hb2:b<=gF (if c>b then c else b) r/\c<=gF (if c>b then c else b) r:=by
   generalize gF (if c>b then c else b) r=M at hb
   by_cases z:c>b
   ·rw[aL z] at hb; omega
   ·rw[bD z] at hb; omega
  refine⟨fun y hy=>?_,?_⟩
  ·rcases bT.mp hy with z | z
   ·subst z; exact hb2.1
   ·rcases bT.mp z with z | z
    ·subst z; exact hb2.2
    ·exact h1 y (iR _ z)
  ·rcases bT.mp h2 with z | z
   ·rw[z];split
    ·exact iR _ jw
    ·exact jw
   ·exact iR _ (iR _ z)
def FN:Sp:=fun vs H Q _=>∃(p:Addr)(t:Str)(rs:List gZ)(xs:List V),vs=[.ref p,.str t]/\H p=some (.lst xs)/\ak H (rs.map mX) xs/\rs.length<=1000/\(∀r∈rs,qJ r)/\∀H',aF H H'->Q (.int (gb rs t)) H'
theorem qz:a_ ["rows","what"] ["rows","what"] (aK mQ):=(by walk_at "c")
theorem Be(F:jc K "most_ahead" "most_ahead" mQ f fd)(B:Bi mg):bZ P w K mg base iJ (k+1) f fd ["rows","what"] FN:=by
 refine F.ok qz (by rintro vs H Q E ⟨p,t,rs,xs,rfl,_⟩; rfl) (0:)
 obtain⟨p,t,rs,xs,rfl,hp,hA,hn,hR,q⟩:=h;have ND:=qz.nd;refine⟨_,(aG (aZ (Qw rfl B.max (aa (gw (nt:=1) (N':=["row","what"]) (js:=[1]) rfl (iT (K:=K) rfl (pv 0)) jH.of (fun fp s' H'=>(aC (i:=0) (by show List.Nodup (["row","what"]:List Str); decide) rfl (.inl (h_ rfl)) (.inr (h_ rfl)))) (fun fp s' H'=>wY (bj gY (bB aW (pv 0) ao (fun _ _=>rfl)) (pv 1) (bh _))) (fun fp s' H'=>(aO dX (bB aW (pv 0) ao (fun _ _=>rfl)) ao))) aj) ao))),?_⟩
 ext;have hlen:xs.length=rs.length:=by rw[hA.length,bW]
 have row:∀(i:Nat) x,xs[i]?=some x->∃r,rs[i]?=some r/\At H (mX r) x:=fun i x hx=>by
  obtain⟨d,hd,a⟩:=hA.get hx;rw[g_] at hd;cases e:rs[i]? with
  | none=>rw[e] at hd; simp at hd
  | some r=>rw[e] at hd; simp at hd; exact⟨r,rfl,by rw[hd]; exact a⟩
 refine Ho (fun i=>decide ((rs.getD i ⟨"",0,"",0,0⟩).w=t)) (fun i=>.int (((rs.getD i ⟨"",0,"",0,0⟩).s:Nat)-1)) (fun R hR=>?_) hp ∅ (fun i x H' hx s' R hR=>?_) (fun i x H' hx hk s' R hR=>?_) (fun acc H' s' hacc hl=>?_)
 ·ext; exact hR
 ·obtain⟨r,er,ax⟩:=row i x hx;obtain⟨b,rfl,hb⟩:=row_shape ax;have eg:rs.getD i ⟨"",0,"",0,0⟩=r:=by rw[fD,er]; rfl
  rw[eg] at hR;ext;refine Ix.tup (s' _ _ hb) (bw (j:=0) rfl) ?_;walk_at "cap";ext;exact hR
 ·obtain⟨r,er,ax⟩:=row i x hx;obtain⟨b,rfl,hb⟩:=row_shape ax;have eg:rs.getD i ⟨"",0,"",0,0⟩=r:=by rw[fD,er]; rfl
  rw[eg] at hR;ext;refine Ix.tup (s' _ _ hb) (bw (j:=1) rfl) ?_;ext;exact hR
 ·have hl':H' acc=some (.lst ((((List.range xs.length).filter fun i=>decide ((rs.getD i ⟨"",0,"",0,0⟩).w=t)).map fun i=>(((rs.getD i ⟨"",0,"",0,0⟩).s:Nat):Int)-1).map V.int)):=by rw[hl,CQ]; rfl
  have mem:∀y,y∈(((List.range xs.length).filter fun i=>decide ((rs.getD i ⟨"",0,"",0,0⟩).w=t)).map fun i=>(((rs.getD i ⟨"",0,"",0,0⟩).s:Nat):Int)-1)↔∃r∈rs,r.w=t/\(r.s:Int)-1=y:=fun y=>by
   simp only[gW,JP,qU,decide_eq_true_eq];constructor
   ·rintro⟨i,⟨hi,hw⟩,rfl⟩;have e:rs.getD i ⟨"",0,"",0,0⟩=rs[i]'∅:=by rw[fD,gm ∅]; rfl
    rw[e] at hw ⊢;exact⟨_,Gh _,hw,rfl⟩
   ·rintro⟨r,hr',hw,rfl⟩;obtain⟨i,hi,e⟩:=List.mem_iff_getElem.mp hr';have e':rs.getD i ⟨"",0,"",0,0⟩=r:=by rw[fD,gm hi,<- e]; rfl
    exact⟨i,⟨∅,by rw[e']; exact hw⟩,by rw[e']⟩
  generalize (((List.range xs.length).filter fun i=>decide ((rs.getD i ⟨"",0,"",0,0⟩).w=t)).map fun i=>(((rs.getD i ⟨"",0,"",0,0⟩).s:Nat):Int)-1)=ns at hl' mem;refine⟨acc,ns,rfl,hl',fun e=>?_,fun b r e=>?_⟩
  ·have:(0:Int)=gb rs t:=by
    refine Ak.one (rs:=rs) (w:=t) ⟨sZ 0,fun r hr' hw=>?_,.inl rfl⟩ (pN rs t);have:=(mem ((r.s:Int)-1)).mpr ⟨r,hr',hw,rfl⟩;rw[e] at this;simp at this
   rw[this];exact q H' s'
  ·have:gF b r=gb rs t:=by
    obtain⟨m1,m2⟩:=GX r b;rw[<- e] at m1 m2;obtain⟨r',h1,h2,h3⟩:=(mem _).mp m2;refine Ak.one (rs:=rs) (w:=t) ⟨?_,fun x hx hw=>m1 _ ((mem _).mpr ⟨x,hx,hw,rfl⟩),.inr ⟨r',h1,h2,h3⟩⟩ (pN rs t);have:=(hR r' h1).s;omega
   rw[this];exact q H' s'
theorem Mv{H:Hp}{x:cP}{v:V}(h:At H (gH x) v):∃a b c d ws,v=.ref a/\H a=some (.tup [.int x.p,.int x.m,.ref b,.int x.a,.int x.e,.ref c,.ref d])/\H d=some (.tup ws)/\ak H (x.cQ.map sX) ws:=by
 obtain⟨a,b,c,d,rfl,h1,_⟩:=mq h;obtain⟨a',xs,e,h2,h3⟩:=bz h;cases e;rw[h1] at h2;cases h2;obtain⟨_,_,e,b0,h3⟩:=ak.bf h3;cases e;obtain⟨_,_,e,b0,h3⟩:=ak.bf h3;cases e;obtain⟨_,_,e,b0,h3⟩:=ak.bf h3;cases e;obtain⟨_,_,e,b0,h3⟩:=ak.bf h3;cases e;obtain⟨_,_,e,b0,h3⟩:=ak.bf h3;cases e;obtain⟨_,_,e,b0,h3⟩:=ak.bf h3;cases e;obtain⟨_,_,e,b6,h3⟩:=ak.bf h3;cases e;obtain⟨d',ws,e,g1,g2⟩:=bz b6;cases e;exact⟨a,b,c,d,ws,rfl,h1,g1,g2⟩
structure O7(x:cP):Prop where
 n:x.cQ.flatten.length<=900
 r:∀r∈x.cQ.flatten,qJ r
def Jg:Sp:=fun vs H Q _=>∃(v:V)(x:cP),vs=[v]/\At H (gH x) v/\O7 x/\∀p H',aF H H'->H' p=some (.tup ((fH x).map V.int))->Q (.ref p) H'
theorem Cp:a_ ["post","rows"] ["post"] (aK xW):=(by walk_at "c")
theorem SM(F:jc K "needed" "needed" xW f fd)(B:Bi mg)(O:Co K mg)(nD:Ct P w K mg base k "most_ahead" ["rows","what"] FN):bZ P w K mg base iJ (k+1) f fd ["post"] Jg:=by
 refine F.ok Cp (by rintro vs H Q E ⟨v,x,rfl,_⟩; rfl) (0:)
 obtain⟨v,x,rfl,hv,hN,q⟩:=h;have ND:=Cp.nd;refine⟨_,(aq (aX (i:=1) (Wz (N':=["rule","row"]) (js:=[]) rfl (ig (K:=K) rfl (bB aW (pv 0) ao (fun _ _=>rfl))) jH.of rfl rfl ⋯ rfl rfl (fun fp s' H'=>(ig (K:=K) rfl (pv 0))) (fun fp s' H'=>(pv 1)))) (aG (aZ (pt (dZ) B.tuple dG (aa (tG (N':=["what","rows"]) (js:=[1]) rfl (ig (K:=K) rfl (Qu (K:=K) rfl O.abz)) Lg.mk1 rfl ⋯ rfl (fun fp s' H'=>(pf nD hr (aa (pv 1) (aa (pv 0) aj))))) aj))))),?_⟩
 obtain⟨a,b,c,d,ws,rfl,h1,h2,h3⟩:=Mv hv;ext;have eD:x.cQ.map sX=(x.cQ.map fun rs=>rs.map mX).map PyData.tuple:=by rw[CQ]; rfl
 have eF:(x.cQ.map fun rs=>rs.map mX).flatten=x.cQ.flatten.map mX:=by rw[List.map_flatten]
 rw[eD] at h3;refine Yj _ (fun R hR=>?_) h2 h3 (by rw[eF,bW]; have:=hN.n; omega) (fun y H' R hR=>?_) (fun y z H' R hR=>?_) (fun acc ys H' s' hacc hl hA=>?_)
 ·ext;exact Ix.tup h1 (bw (j:=6) rfl) hR
 ·ext; exact hR
 ·ext; exact hR
 rw[eF] at hA;refine Yi (es:=(fH x).map PyData.int) rfl (by show 3<=sizeLine; decide) rfl (fun i u e H2 hu he s2 R hR=>?_) (fun Uu ys2 H2 s2 XM hl2 hA2=>?_)
 ·walk_at "cap";ext
  have hi:i<3:=by
   by_cases z:i<3
   ·exact z
   ·rw[Mu (by show 3<=i; omega)] at hu; cases hu
  have go:∀(E2:XK) t,u=.str t->e=.int (gb x.cQ.flatten t)->FN ([V.ref acc,u]++[]) H2 R E2:=fun E2 t e1 e2=>by
   rw[e1];exact⟨acc,t,x.cQ.flatten,ys,rfl,s2 _ _ hl,(hA.mono s').mono s2,(by have:=hN.n; omega),hN.r,fun H3 s3=>hR _ _ s3 (by rw[e2]; exact At.int _)⟩
  match i,hi,hu,he with
  | 0,_,hu,he=>cases hu; cases he; exact go _ "come" rfl rfl
  | 1,_,hu,he=>cases hu; cases he; exact go _ "done" rfl rfl
  | 2,_,hu,he=>cases hu; cases he; exact go _ "wait" rfl rfl
 ·cases cG hA2;refine⟨Uu,_,rfl,hl2,fun l hl3=>?_⟩;exact q l _ (s'.trans (s2.trans (aM hl3 _))) aD
def bQ(ws:List Int)(i:Nat)(u:List Int):List Int:=(List.range 3).map fun j=>if ws.getD j 0>i then u.getD j 0 else 0
def eE(ws:List Int)(us:List (List Int)):List (List Int):=(List.range 3).map fun i=>bQ ws i (us.getD i [])
def fU(x:cP)(st:dW):dW:=⟨st.w,st.r,st.cs,if x.e-1<st.s then x.e-1 else st.s,st.t,eE (fH x) st.us⟩
theorem tW{x:cP}{st:dW}(h:iY st):iY (fU x st):=⟨h.c,rfl,fun y hy=>by
 obtain⟨i,_,rfl⟩:=gW.mp (show y∈eE (fH x) st.us from hy)
 rfl⟩
theorem Xg{α:Type}{l:List α}(h:l.length=3):∃a b c,l=[a,b,c]:=by
 match l,h with
 | [a,b,c],_=>exact⟨a,b,c,rfl⟩
def Pk:Sp:=fun vs H Q _=>∃(t b:Addr)(i:Nat)(u ws:List Int),vs=[.ref t,.int i,.ref b]/\H t=some (.tup (u.map V.int))/\H b=some (.tup (ws.map V.int))/\u.length=3/\ws.length=3/\∀p H',aF H H'->H' p=some (.tup ((bQ ws i u).map V.int))->Q (.ref p) H'
theorem oA:a_ ["triple","place","wants"] ["triple","place","wants"] (aK lq):=(by walk_at "c")
theorem yS(F:jc K "lean_triple" "lean_triple" lq f fd)(B:Bi mg):bZ P w K mg base iJ (k+1) f fd ["triple","place","wants"] Pk:=by
 refine F.ok oA (by rintro vs H Q E ⟨t,b,i,u,ws,rfl,_⟩; rfl) (0:)
 obtain⟨t,b,i,u,ws,rfl,h1,h2,n1,n2,q⟩:=h;have ND:=oA.nd;refine⟨_,(aG (aZ (pt (dZ) B.tuple dG (aa (gw (nt:=2) (N':=["number","want","place"]) (js:=[1]) rfl (wO (K:=K) rfl B.zip (aa (pv 0) (aa (pv 2) aj))) jH.of (fun fp s' H'=>(bG (K:=K) (n:=2) rfl rfl (aA (aC (i:=0) (by show List.Nodup (["number","want","place"]:List Str); decide) rfl (.inl (h_ rfl)) (.inr (h_ rfl))) (aA (aC (i:=1) (by show List.Nodup (["number","want","place"]:List Str); decide) rfl (.inl (h_ rfl)) (.inr (h_ rfl))) bF)))) (fun fp s' H'=>ik) (fun fp s' H'=>(cM (bj jy (pv 1) (pv 2) (bh _)) (pv 0) ao))) aj)))),?_⟩
 ext;refine Ea (es:=(bQ ws i u).map PyData.int) (fun R hR=>?_) h1 h2 (by rw[bW,n1]; rfl) (by rw[bW,n2]; rfl) (by show 3<=sizeLine; decide) (cL.mpr fun d hd=>by obtain⟨z,_,rfl⟩:=gW.mp hd; rfl) (fun j x y e H' hx hy he s' R hR=>?_) (fun acc zs H' s' hacc hl hA=>?_)
 ·ext; exact hR
 ·rw[g_] at hx hy;obtain⟨x',ex,rfl⟩:=kI.mp hx;obtain⟨y',ey,rfl⟩:=kI.mp hy
  have ee:e=.int (if y'>i then x' else 0):=by
   rw[g_] at he;obtain⟨z,ez,rfl⟩:=kI.mp he;unfold bQ at ez;rw[g_] at ez;obtain⟨j',ej,rfl⟩:=kI.mp ez
   have:j'=j:=by
    obtain⟨hh,e2⟩:=gC.mp ej;rw[JX] at e2;exact e2.symm
   subst this;rw[fD,fD,ex,ey];rfl
  walk_at "cap";ext;refine fj (fun c=>?_) (fun c=>?_)
  ·refine hR _ _ (aF.refl _) ?_;rw[ee,aL (by have:=uT c; omega)]
   exact At.int _
  ·refine hR _ _ (aF.refl _) ?_;rw[ee,bD (by have:=yD c; omega)]
   exact At.int _
 ·cases cG hA;refine⟨acc,_,rfl,hl,fun l hl3=>?_⟩;exact q l _ (s'.trans (aM hl3 _)) aD
def FP:Sp:=fun vs H Q _=>∃(v u:V)(x:cP)(st:dW),vs=[v,u]/\At H (gH x) v/\At H (nY st) u/\O7 x/\iY st/\∀u' H',aF H H'->At H' (nY (fU x st)) u'->Q u' H'
theorem Lean.of{v u:V}{x:cP}{st:dW}{H:Hp}{Q:VK}{E:XK}(a1:At H (gH x) v)(a2:At H (nY st) u)(n:O7 x)(i:iY st)(q:∀u' H',aF H H'->At H' (nY (fU x st)) u'->Q u' H'):FP ([v,u]++[]) H Q E:=⟨v,u,x,st,rfl,a1,a2,n,i,q⟩
theorem PQ:a_ ["post","stand","wait","ready","called","since","rest","seen","wants","lean_seen"] ["post","stand"] (aK Mp):=(by walk_at "c")
theorem Z2(F:jc K "lean" "lean" Mp f fd)(B:Bi mg)(z9:Ct P w K mg base k "needed" ["post"] Jg)(lQ:Ct P w K mg base k "lean_triple" ["triple","place","wants"] Pk):bZ P w K mg base iJ (k+1) f fd ["post","stand"] FP:=by
 refine F.ok PQ (by rintro vs H Q E ⟨v,u,x,st,rfl,_⟩; rfl) (0:)
 obtain⟨v,u,x,st,rfl,hv,hu,hN,hS,q⟩:=h;have ND:=PQ.nd;refine⟨_,(aq (cJ (pv 1) (bG (K:=K) (n:=6) rfl rfl (aA (aC (i:=2)) (aA (aC (i:=3)) (aA (aC (i:=4)) (aA (aC (i:=5)) (aA (aC (i:=6)) (aA (aC (i:=7)) bF)))))))) (aq (aX (i:=8) (pf z9 hr (aa (pv 0) aj))) (aq (aX (i:=9) (pt (dZ) B.tuple dG (aa (gw (nt:=2) (N':=["place","triple","wants"]) (js:=[8]) rfl (J_ (K:=K) rfl B.enumerate (aa (pv 7) aj)) jH.of (fun fp s' H'=>(bG (K:=K) (n:=2) rfl rfl (aA (aC (i:=0) (by show List.Nodup (["place","triple","wants"]:List Str); decide) rfl (.inl (h_ rfl)) (.inr (h_ rfl))) (aA (aC (i:=1) (by show List.Nodup (["place","triple","wants"]:List Str); decide) rfl (.inl (h_ rfl)) (.inr (h_ rfl))) bF)))) (fun fp s' H'=>ik) (fun fp s' H'=>(pf lQ hr (aa (pv 1) (aa (pv 0) (aa (pv 2) aj)))))) aj))) (aG (aZ (aV (aa (pv 2) (aa (pv 3) (aa (pv 4) (aa (pb (dN rfl) B.min gO (aa (pv 5) (aa (aO dX (bB aW (pv 0) ao (fun _ _=>rfl)) ao) aj))) (aa (pv 6) (aa (pv 9) aj)))))))))))),?_⟩
 obtain⟨a,b,c,rfl,h1,h2,h3⟩:=iu hu;obtain⟨pa,pb,pc,pd,rfl,g1,_⟩:=mq hv;ext;refine⟨a,_,rfl,cB.of h1,rfl,?_⟩;ext;refine⟨_,x,rfl,hv,hN,fun p H1 s1 e1=>?_⟩;ext;obtain⟨c',zs,ec,h4,h5⟩:=bz h3;cases ec;have hzl:zs.length=3:=by rw[h5.length,bW,hS.u]
 refine Ol (es:=(eE (fH x) st.us).map jD) (fun R hR=>?_) (s1 _ _ h4) (by rw[hzl]; rfl) (by show 3<=sizeLine; decide) (cL.mpr fun d hd=>by
   obtain⟨z,_,rfl⟩:=gW.mp hd
   exact cL.mpr fun d hd=>by obtain⟨z,_,rfl⟩:=gW.mp hd; rfl) (fun j y e H' hy he s' R hR=>?_) (fun acc zs' H' s' hacc hl hA=>?_)
 ·ext; exact hR
 ·obtain⟨d,hd,ay⟩:=h5.get hy;rw[g_] at hd;obtain⟨t,et,rfl⟩:=kI.mp hd;have ht3:t.length=3:=hS.l t (jx et);obtain⟨ty,ts,rfl,k1,k2⟩:=bz ay;cases cG k2
  have ee:e=jD (bQ (fH x) j t):=by
   rw[g_] at he;obtain⟨z,ez,rfl⟩:=kI.mp he;unfold eE at ez;rw[g_] at ez;obtain⟨j',ej,rfl⟩:=kI.mp ez
   have:j'=j:=by
    obtain⟨hh,e2⟩:=gC.mp ej;rw[JX] at e2;exact e2.symm
   subst this;rw[fD,et];rfl
  walk_at "cap";ext;refine⟨ty,p,j,t,fH x,rfl,s' _ _ (s1 _ _ k1),s' _ _ e1,ht3,rfl,fun r H2 s2 e2=>?_⟩;refine hR _ _ s2 ?_;rw[ee];exact At.tup e2 (bI _)
 ·refine⟨acc,zs',rfl,hl,fun l hl3=>?_⟩;have sl:=aM hl3 (HO.tup zs');have A1:At (upd H' l (.tup zs')) (.tuple ((eE (fH x) st.us).map jD)) (.ref l):=At.tup aD ((hA.mono fO).mono sl);refine Ix.tup (sl _ _ (s' _ _ (s1 _ _ g1))) (bw (j:=4) rfl) ?_;ext;refine⟨(by show 6<=sizeLine; decide),fun r H3 f3 s3 e3=>?_⟩
  have ss:aF H H3:=s1.trans (s'.trans (sl.trans s3));refine q _ _ ss (At.tup e3 ?_);exact ak.cons (At.int _) (ak.cons (At.int _) (ak.cons (At.tup (ss _ _ h2) (bI _)) (ak.cons (At.int _) (ak.cons (At.int _) (ak.cons (A1.mono s3) ak.nil)))))
def iw(x:cP)(st:dW)(c:Int):dW:=dD x (dR x st c) (mK x st c 12)
def dU(x:cP):dW->List Int->dW
 | st,[]=>st
 | st,c::cs=>dU x (iw x st c) cs
theorem fX(x:cP):∀(st:dW)(l:List Int)(c:Int),dU x st (l++[c])=iw x (dU x st l) c
 | _,[],_=>rfl
 | st,d::l,c=>fX x (iw x st d) l c
theorem Zd{x:cP}{st:dW}{ch:Int}(hx:nQ x)(hs:iY st):iY (dD x st ch):=by
 have hc:=hs.c;have ha:=hx.a;unfold dD;split
 ·exact hs
 ·split
  ·refine⟨?_,hs.u,hs.l⟩;simp only[c7,jV,yz,jU,JN];omega
  ·refine⟨?_,hs.u,hs.l⟩;simp only[m9];exact hc
theorem tM{x:cP}{st:dW}{c:Int}(hx:nQ x)(hs:iY st):iY (iw x st c):=Zd hx (Kq hs)
theorem pO{x:cP}(hx:nQ x):∀{l:List Int}{st:dW},iY st->iY (dU x st l)
 | [],_,hs=>hs
 | c::l,_,hs=>pO hx (l:=l) (tM hx hs)
def Py:Sp:=fun vs H Q _=>∃(v:V)(x:cP),vs=[v]/\At H (gH x) v/\∀u H',aF H H'->At H' (nY ⟨0,x.lo,[0,0,0,0,0],0,0,[[0,0,0],[0,0,0],[0,0,0]]⟩) u->Q u H'
theorem m5{H:Hp}{x:cP}{v:V}(h:At H (gH x) v):∃a b c d,v=.ref a/\H a=some (.tup [.int x.p,.int x.m,.ref b,.int x.a,.int x.e,.ref c,.ref d])/\H b=some (.tup [.int x.lo,.int x.hi])/\H c=some (.tup [.int x.u,.int x.d])/\At H (qT x.cQ) (.ref d):=by
 obtain⟨a,xs,rfl,h1,h2⟩:=bz h;obtain⟨x0,_,rfl,b0,h2⟩:=ak.bf h2;obtain⟨x1,_,rfl,b1,h2⟩:=ak.bf h2;obtain⟨x2,_,rfl,b2,h2⟩:=ak.bf h2;obtain⟨x3,_,rfl,b3,h2⟩:=ak.bf h2;obtain⟨x4,_,rfl,b4,h2⟩:=ak.bf h2;obtain⟨x5,_,rfl,b5,h2⟩:=ak.bf h2;obtain⟨x6,_,rfl,b6,h2⟩:=ak.bf h2;cases ak.jP h2;unfold At at b0 b1 b3 b4;subst b0 b1 b3 b4;obtain⟨b,ys,rfl,g3,g4⟩:=bz b2;obtain⟨c,zs,rfl,g1,g2⟩:=bz b5;obtain⟨d,ws,rfl,_,_⟩:=bz b6;cases cG (cs:=[x.u,x.d]) g2;cases cG (cs:=[x.lo,x.hi]) g4;exact⟨a,b,c,d,rfl,h1,g3,g1,b6⟩
theorem oH:a_ ["post","least","nothing"] ["post"] (aK lC):=(by walk_at "c")
theorem yV(F:jc K "first_stand" "first_stand" lC f fd)(B:Bi mg):bZ P w K mg base iJ (k+1) f fd ["post"] Py:=by
 refine F.ok oH (by rintro vs H Q E ⟨v,x,rfl,_⟩; rfl) (0:)
 obtain⟨pA,x,rfl,a1,q⟩:=h;have ND:=oH.nd;refine⟨_,(aq (aX (i:=1) (bB aW (bB aW (pv 0) ao (fun _ _=>rfl)) ao (fun _ _=>rfl))) (aq (aX (i:=2) (aV (aa ao (aa ao (aa ao aj))))) (aG (aZ (aV (aa ao (aa (pv 1) (aa (aV (aa ao (aa ao (aa ao (aa ao (aa ao aj)))))) (aa ao (aa ao (aa (aV (aa (pv 2) (aa (pv 2) (aa (pv 2) aj)))) aj))))))))))),?_⟩
 obtain⟨pa,pb,pc,pd,rfl,p1,p2,p3,_⟩:=m5 a1;ext;refine Ix.tup p1 (v:=.ref pb) rfl (Ix.tup p2 (v:=.int x.lo) rfl ⟨⋯,fun p4 H4 f4 s4 e4=>⟨⋯,fun p5 H5 f5 s5 e5=>⟨⋯,fun p6 H6 f6 s6 e6=>⟨⋯,fun p7 H7 f7 s7 e7=>?_⟩⟩⟩⟩)
 have s47:=s5.trans (s6.trans s7);refine q _ _ (s4.trans s47) ?_;have tri:At H7 (jD [0,0,0]) (.ref p4):=At.tup (s47 _ _ e4) (bI [0,0,0]);exact At.tup e7 (ak.cons (At.int _) (ak.cons (At.int _) (ak.cons (At.tup ((s6.trans s7) _ _ e5) (bI [0,0,0,0,0])) (ak.cons (At.int _) (ak.cons (At.int _) (ak.cons (At.tup (s7 _ _ e6) (ak.cons tri (ak.cons tri (ak.cons tri ak.nil)))) ak.nil))))))
theorem jz:∀cs:List Int,bJ (cs.map PyData.int)=true
 | []=>rfl
 | c::cs=>by show(kE (.int c)&&bJ (cs.map .int))=true; rw[jz cs]; rfl
theorem xu:∀us:List (List Int),bJ (us.map jD)=true
 | []=>rfl
 | u::us=>by
  show(bJ (u.map PyData.int)&&bJ (us.map jD))=true;rw[xu us,jz u]; rfl
theorem pX(n:dW):kE (nY n)=true:=by
 simp only[nY,kE,bJ,jz,xu,Bool.and_self]
def VJ(K:Frag):Sp:=fun vs H Q _=>∃(s:Addr)(ns:List Int)(i:Int),vs=[.ref s,.int i]/\d7 K H s (ns.map V.int)/\0<=i/\i<=1000/\∀p H',H p=none->aF H H'->Tp H' p 0->Q (.ref p) H'
theorem Cu:a_ ["_law_script","_law_k","_law_cell"] ["_law_script","_law_k"] (aK x_):=(by walk_at "c")
theorem S5(F:jc K "_law_tape" "_law_tape" x_ f fd)(B:Bi mg):bZ P w K mg base iJ (k+1) f fd ["_law_script","_law_k"] (VJ K):=by
 refine F.ok Cu (by rintro vs H Q E ⟨a,ns,i,rfl,_⟩; rfl) (0:)
 obtain⟨a,ns,i,rfl,hS,h0,h1,q⟩:=h;have ND:=Cu.nd;refine⟨_,(aq (aX (i:=2) (cM (bj tK (pv 1) (pb (jk (K:=K) rfl) B.len rP (aa (pv 0) aj)) (bh _)) (bB QV (pv 0) (pv 1) (fun _ _=>rfl)) ao)) (aG (aZ (acn (aa (aO gK (pb (KZ) B.abs Ys (aa (pv 2) aj)) (pt (mG) B.int vq (aa (eY QD (pb (KZ) B.abs Ys (aa (pv 2) aj)) (aO q_ ao ao) (bh _)) aj))) (aa (aO bK (aO bK (aO lG (pv 2) ao) (aO gK ao (pv 1))) ao) (aa ao aj))))))),?_⟩
 ext;refine⟨a,_,rfl,.inl hS,?_⟩;show ∃i_1 j,V.int i=V.int i_1/\V.int ((ns.map V.int).length:Int)=V.int j/\_;ext;have ac7:∀c:Int,0<=(if c<0 then -c else c):=fun c=>by split <;> omega
 have fin:∀(c x y:Int),x=(if c<0 then -c else c)*(if decide (10 ^ Int.toNat 18<=(if c<0 then -c else c))=true then 1 else 0)->y=c % 2305843009213693951+39373*i+17->∀p,H p=none->Q (.ref p) (upd H p (.lst [.int x,.int y,.int 0])):=fun c x y ex ey p hp=>by
  have hx:0<=x:=by
   rw[ex];have nn:=ac7 c;generalize (if c<0 then -c else c)=u at nn ⊢
   split
   ·rw[Int.mul_one]; exact nn
   ·rw[Int.mul_zero]; exact sZ 0
  have h2:=Gf c (show(2305843009213693951:Int)≠0 by decide)
  have h3:=Gk c (show(0:Int)<2305843009213693951 by decide)
  exact q p _ hp (aM hp _) ⟨x,y,0,aD,hx,∅,∅,sZ 0,sZ 0⟩
 have cm:∀(c:Int)(b:Bool),YH c (if b=true then 1 else 0):=fun c b=>.inr (by cases b <;> decide)
 refine fj (fun c1=>?_) (fun c1=>?_)
 ·have c1':=uT c1;have hi:i.toNat<ns.length:=by rw[bW] at c1'; omega
  refine⟨a,_,i,.int (ns[i.toNat]),rfl,rfl,hS,?_,?_⟩
  ·have:=bw (xs:=ns.map V.int) (j:=i.toNat) (v:=.int (ns[i.toNat])) (by rw[g_,gm hi]; rfl)
   rwa [show((i.toNat:Nat):Int)=i by omega] at this
  ·ext;refine⟨⟨⋯,⋯,⋯⟩,cm _ _,⋯,.inl ⋯,(by show 3<=sizeLine; decide),fun p hp=>?_⟩
   exact fin _ _ _ rfl rfl p hp
 ·refine⟨⟨⋯,⋯,⋯⟩,cm _ _,⋯,.inl ⋯,(by show 3<=sizeLine; decide),fun p hp=>?_⟩
  exact fin 0 _ _ rfl rfl p hp
def nZ:Sp:=fun vs H Q _=>∃(a:Addr)(m:Int)(n:Nat),vs=[.ref a,.int m]/\Tp H a n/\n<=1000000000/\0<m/\m<1000000000000000/\∀v H',0<=v->v<m->Tp H' a (n+1)->SX a H H'->Q (.int v) H'
theorem Cy:a_ ["_law_tape_here","_law_many","_law_found","_law_once","_law_twice"] ["_law_tape_here","_law_many"] (aK yd):=(by walk_at "c")
theorem S7(F:jc K "_law_draw" "_law_draw" yd f fd)(B:Bi mg):bZ P w K mg base iJ (k+1) f fd ["_law_tape_here","_law_many"] nZ:=by
 refine F.ok Cy (by rintro vs H Q E ⟨a,m,n,rfl,_⟩; rfl) (0:)
 obtain⟨a,m,n,rfl,⟨x,y,z,hT,hx,hy,hy2,hz,hz2⟩,hn,hm,hm2,q⟩:=h;have ND:=Cy.nd;refine⟨_,(aq (cX (bj jy (bB aW (pv 0) ao (fun _ _=>rfl)) ao (bh _)) (aq (aX (i:=2) (aO lG (bB aW (pv 0) ao (fun _ _=>rfl)) (pv 1))) (aq (cJ (aO yO (bB aW (pv 0) ao (fun _ _=>rfl)) (pv 1)) (yN (pv 0) ao set_list)) (aG (aZ (pv 2))))) bM) (aq (cJ (aO bK (bB aW (pv 0) ao (fun _ _=>rfl)) ao) (yN (pv 0) ao set_list)) (aq (aX (i:=3) (aO lG (aO q_ (aO bK (bB aW (pv 0) ao (fun _ _=>rfl)) (aO gK ao (bB aW (pv 0) ao (fun _ _=>rfl)))) ao) ao)) (aq (aX (i:=4) (aO lG (aO gK (aO bK (pv 3) (bB aW (pv 0) ao (fun _ _=>rfl))) (aO bK (aO bK (aO lG (pv 3) ao) ao) (bB aW (pv 0) ao (fun _ _=>rfl)))) ao)) (aG (aZ (aO lG (aO ZZ (aO lG (aO bK (aO gK (pv 4) ao) (pv 3)) ao) ao) (pv 1)))))))),?_⟩
 ext;refine Ix.lst hT (bw (j:=0) rfl) ?_;ext;refine fj (fun c1=>?_) (fun c1=>?_)
 ·refine Ix.lst hT (bw (j:=0) rfl) ?_;ext;refine⟨hm,Ix.lst hT (bw (j:=0) rfl) ?_⟩;ext;refine⟨⟨hm,Int.lt_trans hm2 ⋯⟩,a,_,0,0,rfl,rfl,hT,rfl,?_⟩
  refine q _ _ (Gf _ ∅) (Gk _ hm) ⟨x / m,y,z,aD,Int.ediv_nonneg hx ∅,hy,hy2,hz,∅⟩ SX.upd
 ·refine Ix.lst hT (bw (j:=2) rfl) ?_;ext;refine⟨a,_,2,2,rfl,rfl,hT,rfl,?_⟩;have hT2:upd H a (.lst [.int x,.int y,.int (z+1)]) a=some (.lst [.int x,.int y,.int (z+1)]):=aD;show Ju (V.ref a) (V.int 1) (upd H a (.lst [.int x,.int y,.int (z+1)])) _;generalize eH:upd H a (.lst [.int x,.int y,.int (z+1)])=H2 at hT2 ⊢;have sx:SX a H H2:=by rw[<- eH]; exact SX.upd
  refine Ix.lst hT2 (bw (j:=1) rfl) (Ix.lst hT2 (bw (j:=2) rfl) ?_);ext;refine⟨.inl ⋯,⟨⋯,⋯,∅⟩,⋯,Ix.lst hT2 (bw (j:=2) rfl) ?_⟩
  generalize eo:(y+39373*(z+1)) ^ Int.toNat 5 % 2147483647=o;have o1:0<=o:=by rw[<- eo]; exact Gf _ ⋯
  have o2:o<2147483647:=by rw[<- eo]; exact Gk _ ⋯
  ext;refine⟨⋯,Ix.lst hT2 (bw (j:=2) rfl) ?_⟩
  ext;have m1:=Gf o (show(40009:Int)≠0 by decide)
  have m2:=Gk o (show(0:Int)<40009 by decide)
  refine⟨.inl ∅,⋯,?_⟩
  generalize et:(o+(z+1))*(o % 40009+7+(z+1)) % 2147483629=t;have t1:0<=t:=by rw[<- et]; exact Gf _ ⋯
  have t2:t<2147483629:=by rw[<- et]; exact Gk _ ⋯
  refine⟨.inl ∅,⋯,⟨⋯,⋯⟩,hm,?_⟩
  exact q _ _ (Gf _ ∅) (Gk _ hm) ⟨x,y,z+1,hT2,hx,hy,hy2,∅,∅⟩ sx
theorem gf.of{a:Addr}{m:Int}{n:Nat}{H:Hp}{Q:VK}{E:XK}(t:Tp H a n)(hn:n<=1000000000)(h1:0<m)(h2:m<1000000000000000)(q:∀v H',0<=v->v<m->Tp H' a (n+1)->SX a H H'->Q (.int v) H'):nZ ([.ref a,.int m]++[]) H Q E:=⟨a,m,n,rfl,t,hn,h1,h2,q⟩
def FJ:Sp:=fun vs H Q _=>∃(a:Addr)(n:Nat),vs=[.ref a]/\Tp H a n/\n<=900000000/\∀v H',0<=v->v<=1000000000000->Tp H' a (n+4)->SX a H H'->Q (.int v) H'
theorem afj.of{a:Addr}{n:Nat}{H:Hp}{Q:VK}{E:XK}(t:Tp H a n)(hn:n<=900000000)(q:∀v H',0<=v->v<=1000000000000->Tp H' a (n+4)->SX a H H'->Q (.int v) H'):FJ ([.ref a]++[]) H Q E:=⟨a,n,rfl,t,hn,q⟩
theorem xO:a_ ["_law_tape_here","_law_way","_law_great"] ["_law_tape_here"] (aK uH):=(by walk_at "c")
theorem MK(F:jc K "_law_units" "_law_units" uH f fd)(B:Bi mg)(bH:Ct P w K mg base k "_law_draw" ["_law_tape_here","_law_many"] nZ):bZ P w K mg base iJ (k+1) f fd ["_law_tape_here"] FJ:=by
 refine F.ok xO (by rintro vs H Q E ⟨a,n,rfl,_⟩; rfl) (0:)
 obtain⟨a,n,rfl,tp,hn,q⟩:=h;have ND:=xO.nd;refine⟨_,(aq (aX (i:=1) (pf bH hr (aa (pv 0) (aa ao aj)))) (aq (cX (bj tK (pv 1) ao (bh _)) (aG (aZ (pf bH hr (aa (pv 0) (aa ao aj))))) bM) (aq (cX (bj gY (pv 1) ao (bh _)) (aG (aZ (pf bH hr (aa (pv 0) (aa ao aj))))) bM) (aq (aX (i:=2) (aO bK (aO gK (pf bH hr (aa (pv 0) (aa (aO q_ ao ao) aj))) (aO q_ ao ao)) (pf bH hr (aa (pv 0) (aa (aO q_ ao ao) aj))))) (aG (aZ (cM (bj gY (pv 1) ao (bh _)) (pv 2) (aO dX (aO q_ ao ao) (aO lG (pv 2) ao))))))))),?_⟩
 ext;refine gf.of tp ∅ ⋯ ⋯ fun v1 H1 l1 u1 t1 s1=>?_
 ext;refine fj (fun c1=>?_) (fun c1=>?_)
 ·refine gf.of t1 ∅ ⋯ ⋯ fun v2 H2 l2 u2 t2 s2=>?_
  exact q v2 H2 l2 ∅ (t2.mono ∅) (s1.trans s2)
 ·refine fj (fun c2=>?_) (fun c2=>?_)
  ·refine gf.of t1 ∅ ⋯ ⋯ fun v2 H2 l2 u2 t2 s2=>?_
   exact q v2 H2 l2 ∅ (t2.mono ∅) (s1.trans s2)
  ·refine⟨⟨⋯,⋯,⋯⟩,?_⟩
   refine gf.of t1 ∅ ⋯ ⋯ fun v2 H2 l2 u2 t2 s2=>?_
   ext;have e6:(10:Int) ^ Int.toNat 6=1000000:=by decide
   have Ra:(10:Int) ^ Int.toNat 12=1000000000000:=by decide
   rw[e6] at u2;refine⟨⟨⋯,⋯,⋯⟩,.inr ⋯,⟨⋯,⋯,⋯⟩,?_⟩
   refine gf.of t2 ∅ ⋯ ⋯ fun v3 H3 l3 u3 t3 s3=>?_
   rw[e6] at u3;ext;rw[e6,Ra];refine fj (fun c3=>?_) (fun c3=>?_)
   ·exact q _ H3 ∅ ∅ (t3.mono ∅) (s1.trans (s2.trans s3))
   ·have m1:=Gf (v2*1000000+v3) (show(3:Int)≠0 by decide)
    have m2:=Gk (v2*1000000+v3) (show(0:Int)<3 by decide)
    exact⟨⟨⋯,⋯,⋯⟩,⋯,q _ H3 ∅ ∅ (t3.mono ∅) (s1.trans (s2.trans s3))⟩
def U12(i:Int):Prop:=0<=i/\i<=1000000000000
structure Yx(r:gZ):Prop where
 is:qJ r
 g:r.g∈(["over","under","each"]:List Str)
 z:r.g = "each" -> r.t=0
 t:r.g ≠ "each" -> -12<=r.t/\r.t<=12/\r.t≠0
def VP:Sp:=fun vs H Q _=>∃(a:Addr)(n:Nat)(b:Bool),vs=[.ref a,.bl b]/\Tp H a n/\n<=800000000/\∀v r H',Yx r->At (hid a H') (mX r) v->Tp H' a (n+12)->SX a H H'->Q v H'
theorem Row.of{a:Addr}{n:Nat}{b:Bool}{H:Hp}{Q:VK}{E:XK}(t:Tp H a n)(hn:n<=800000000)(q:∀v r H',Yx r->At (hid a H') (mX r) v->Tp H' a (n+12)->SX a H H'->Q v H'):VP ([.ref a,.bl b]++[]) H Q E:=⟨a,n,b,rfl,t,hn,q⟩
theorem Jp:a_ ["_law_tape_here","_law_small","_law_sign","_law_what","_law_span","_law_number","_law_step"] ["_law_tape_here","_law_small"] (aK FW):=(by walk_at "c")
theorem WT(F:jc K "_law_row" "_law_row" FW f fd)(B:Bi mg)(bH:Ct P w K mg base k "_law_draw" ["_law_tape_here","_law_many"] nZ)(Uk:Ct P w K mg base k "_law_units" ["_law_tape_here"] FJ):bZ P w K mg base iJ (k+1) f fd ["_law_tape_here","_law_small"] VP:=by
 refine F.ok Jp (by rintro vs H Q E ⟨a,n,b,rfl,_⟩; rfl) (0:)
 obtain⟨a,n,b,rfl,tp,hn,q⟩:=h;have ND:=Jp.nd;refine⟨_,(aq (aX (i:=2) (bB aW (bR (aa cD (aa cD (aa cD aj)))) (pf bH hr (aa (pv 0) (aa ao aj))) (fun _ _=>rfl))) (aq (aX (i:=3) (bB aW (bR (aa cD (aa cD (aa cD (aa cD aj))))) (pf bH hr (aa (pv 0) (aa ao aj))) (fun _ _=>rfl))) (aq (aX (i:=4) (cM (fY (pv 1)) (bB aW (bR (aa ao (aa ao (aa ao (aa (aO bK ao (pf bH hr (aa (pv 0) (aa ao aj)))) aj))))) (pf bH hr (aa (pv 0) (aa ao aj))) (fun _ _=>rfl)) (aO bK ao (pf bH hr (aa (pv 0) (aa ao aj)))))) (aq (aX (i:=5) (cM (fY (pv 1)) (pf bH hr (aa (pv 0) (aa ao aj))) (pf Uk hr (aa (pv 0) aj)))) (aq (cX (bj gY (pv 2) cD (bh _)) (aG (aZ (aV (aa (pv 3) (aa (pv 4) (aa (pv 2) (aa (pb (gG rfl) B.max jG (aa ao (aa (pv 5) aj))) (aa ao aj)))))))) bM) (aq (aX (i:=6) (aO bK ao (pf bH hr (aa (pv 0) (aa (cM (fY (pv 1)) ao ao) aj))))) (aG (aZ (aV (aa (pv 3) (aa (pv 4) (aa (pv 2) (aa (pv 5) (aa (cM (bj tK (aO bK (pf bH hr (aa (pv 0) (aa ao aj))) (aO gK (pt (mG) B.int vq (aa (eY gY (pv 2) cD (bh _)) aj)) ao)) ao (bh _)) (pv 6) (aO dX ao (pv 6))) aj)))))))))))))),?_⟩
 ext;refine⟨⋯,fun p1 H1 f1 s1 e1=>?_⟩
 refine gf.of (tp.same s1) ∅ ⋯ ⋯ fun y1 H2 l2 u2 t2 s2=>?_
 have n1:p1≠a:=tp.ne f1;obtain⟨g,hg,eg⟩:=Dq (ts:=["over","under","each"]) l2 u2;refine Ix.lst (s2.get n1 e1) eg ?_;refine⟨⋯,fun p3 H3 f3 s3 e3=>?_⟩
 refine gf.of (t2.same s3) ∅ ⋯ ⋯ fun y4 H4 l4 u4 t4 s4=>?_
 have n3:p3≠a:=t2.ne f3;obtain⟨w,hw,ew⟩:=Dq (ts:=["come","done","wait","wait"]) l4 u4
 have hw':w∈(["come","done","wait"]:List Str):=by
  simp only[bT,jW,or_false] at hw ⊢;rcases hw with z | z | z | z
  ·exact .inl z
  ·exact .inr (.inl z)
  ·exact .inr (.inr z)
  ·exact .inr (.inr z)
 refine Ix.lst (s4.get n3 e3) ew ?_;have sx4:SX a H H4:=(SX.of s1).trans (s2.trans ((SX.of s3).trans s4))
 have fin:∀(sp:Nat)(nn tt:Int)(H8:Hp)(m:Nat),(1<=sp/\sp<=4)->Tp H8 a m->m<=n+12->SX a H H8->(0<=nn/\nn<=1000000000000)->(g = "each" -> 1<=nn)->(g = "each" -> tt=0)->(g ≠ "each" -> -12<=tt/\tt<=12/\tt≠0)->∀p H',H8 p=none->aF H8 H'->H' p=some (.tup [.str w,.int sp,.str g,.int nn,.int tt])->Q (.ref p) H':=fun sp nn tt H8 m hsp t8 hm s8 hnn hge hz ht p H' fp sp' ep=>by
  have pa:p≠a:=t8.ne fp;refine q _ ⟨w,sp,g,nn,tt⟩ H' ⟨⟨hw',hsp,⟨hnn.1,Int.le_trans hnn.2 ⋯⟩,hge⟩,hg,hz,ht⟩ (At.tup (by rw[dh pa]; exact ep) ?_) ((t8.same sp').mono hm) (s8.trans (SX.of sp'))
  exact ak.cons (At.str _) (ak.cons (At.int _) (ak.cons (At.str _) (ak.cons (At.int _) (ak.cons (At.int _) ak.nil))))
 cases b with
 | false=>
  ext;refine gf.of t4 ∅ ⋯ ⋯ fun y5 H5 l5 u5 t5 s5=>?_
  ext;refine afj.of t5 ∅ fun num H6 l6 u6 t6 s6=>?_
  ext;obtain⟨sp,hsp⟩:∃sp:Nat,1+y5=(sp:Int):=⟨(1+y5).toNat,∅⟩
  rw[hsp];have sx:SX a H H6:=sx4.trans (s5.trans s6);refine fj (fun c1=>?_) (fun c1=>?_)
  ·exact⟨⋯,fin _ _ _ H6 _ ∅ t6 ∅ sx (by split <;> omega) (fun _=>by split <;> omega) (fun _=>rfl) (fun z=>absurd (uT c1) z)⟩
  ·have c1':=yD c1;refine gf.of t6 ∅ ⋯ ⋯ fun y8 H8 l8 u8 t8 s8=>?_
   ext;refine gf.of t8 ∅ ⋯ ⋯ fun y9 H9 l9 u9 t9 s9=>?_
   ext;refine⟨.inr ⋯,?_⟩
   refine fj (fun c2=>?_) (fun c2=>?_)
   ·exact⟨⋯,fin _ _ _ H9 _ ∅ t9 ∅ (sx.trans (s8.trans s9)) ⟨l6,u6⟩ (fun z=>absurd z c1') (fun z=>absurd z c1') (fun _=>by omega)⟩
   ·exact⟨⋯,fin _ _ _ H9 _ ∅ t9 ∅ (sx.trans (s8.trans s9)) ⟨l6,u6⟩ (fun z=>absurd z c1') (fun z=>absurd z c1') (fun _=>by omega)⟩
 | true=>
  ext;refine gf.of t4 ∅ ⋯ ⋯ fun y5 H5 l5 u5 t5 s5=>?_
  ext;refine⟨⋯,fun p6 H6 f6 s6 e6=>?_⟩
  refine gf.of (t5.same s6) ∅ ⋯ ⋯ fun y7 H7 l7 u7 t7 s7=>?_
  have n6:p6≠a:=t5.ne f6;obtain⟨x,hx,ex⟩:=p_ (ts:=[1,1,1,1+y5]) l7 u7;refine Ix.lst (s7.get n6 e6) ex ?_
  have hx':1<=x/\x<=4:=by
   simp only[bT,jW,or_false] at hx;rcases hx with rfl | rfl | rfl | rfl <;> omega
  refine gf.of t7 ∅ ⋯ ⋯ fun num H8 l8 u8 t8 s8=>?_
  ext;obtain⟨sp,rfl⟩:∃sp:Nat,x=(sp:Int):=⟨x.toNat,∅⟩
  have sx:SX a H H8:=sx4.trans (s5.trans ((SX.of s6).trans (s7.trans s8)));refine fj (fun c1=>?_) (fun c1=>?_)
  ·exact⟨⋯,fin _ _ _ H8 _ ∅ t8 ∅ sx (by split <;> omega) (fun _=>by split <;> omega) (fun _=>rfl) (fun z=>absurd (uT c1) z)⟩
  ·have c1':=yD c1;refine gf.of t8 ∅ ⋯ ⋯ fun y8 H9 l9 u9 t9 s9=>?_
   ext;refine gf.of t9 ∅ ⋯ ⋯ fun y9 Am l10 u10 t10 uM=>?_
   ext;refine⟨.inr ⋯,?_⟩
   refine fj (fun c2=>?_) (fun c2=>?_)
   ·exact⟨⋯,fin _ _ _ Am _ ∅ t10 ∅ (sx.trans (s9.trans uM)) ∅ (fun z=>absurd z c1') (fun z=>absurd z c1') (fun _=>by omega)⟩
   ·exact⟨⋯,fin _ _ _ Am _ ∅ t10 ∅ (sx.trans (s9.trans uM)) ∅ (fun z=>absurd z c1') (fun z=>absurd z c1') (fun _=>by omega)⟩
theorem wM(r:gZ):kE (mX r)=true:=rfl
theorem Js(rs:List gZ):kE (sX rs)=true:=by
 show bJ (rs.map mX)=true;exact cL.mpr fun d hd=>by obtain⟨r,_,rfl⟩:=gW.mp hd; rfl
structure ac8(rs:List gZ):Prop where
 lo:1<=rs.length
 hi:rs.length<=4
 g:∀r∈rs,Yx r
def Ph:Sp:=fun vs H Q _=>∃(a:Addr)(n:Nat)(bs:Bool),vs=[.ref a,.bl bs]/\Tp H a n/\n<=700000000/\∀p cQ H',cQ.length<=3->(∀rs∈cQ,ac8 rs)->At (hid a H') (qT cQ) (.ref p)->Tp H' a (n+300)->SX a H H'->Q (.ref p) H'
theorem xP:a_ ["_law_tape_here","_law_small","_law_rules_here","_law_k"] ["_law_tape_here","_law_small"] (aK uI):=(by walk_at "c")
theorem MP(F:jc K "_law_rules" "_law_rules" uI f fd)(B:Bi mg)(bH:Ct P w K mg base k "_law_draw" ["_law_tape_here","_law_many"] nZ)(aaD:Ct P w K mg base k "_law_row" ["_law_tape_here","_law_small"] VP):bZ P w K mg base iJ (k+1) f fd ["_law_tape_here","_law_small"] Ph:=by
 refine F.ok xP (by rintro vs H Q E ⟨a,n,bs,rfl,_⟩; rfl) (0:)
 obtain⟨a,n,bs,rfl,tp,hn,q⟩:=h;have ND:=xP.nd;refine⟨_,(aq (aX (i:=2) (bR aj)) (aq (fZ PassesOwn.never rfl (jO (by rfl) B.range (aa (pf bH hr (aa (pv 0) (aa (cM (fY (pv 1)) ao ao) aj))) aj)) (aC (i:=3)) (aG (eQ (gJ (K:=K) rfl PySem.F.plainAttrs_list PySem.F.slot_list_append PySem.F.type_list_append dY (pv 2) (aa (pt (dZ) B.tuple dG (aa (tG (N':=["_law_j","_law_tape_here","_law_small"]) (js:=[0,1]) rfl (jO (by rfl) B.range (aa (aO bK ao (pf bH hr (aa (pv 0) (aa (cM (fY (pv 1)) ao ao) aj)))) aj)) Lg.mk2 rfl ⋯ rfl (fun fp s' H'=>(pf aaD hr (aa (pv 1) (aa (pv 2) aj))))) aj)) aj))))) (aG (aZ (pt (dZ) B.tuple dG (aa (pv 2) aj)))))),?_⟩
 ext;refine⟨fG _,fun p H1 f1 s1 e1=>?_⟩;have pa:p≠a:=tp.ne f1;rw[Ja];ext;refine(fun(hT:∀(m:Int) (H2:Hp),0<=m->m<4->Tp H2 a (n+1)->SX a H1 H2->FK _ _ _ _ [.int m] H2)=>fj (fun _=>gf.of (tp.same s1) ∅ ⋯ ⋯ fun m H2 l2 u2 t2 s2=>hT m H2 l2 ∅ t2 s2) (fun _=>gf.of (tp.same s1) ∅ ⋯ ⋯ fun m H2 l2 u2 t2 s2=>hT m H2 l2 ∅ t2 s2)) ?_
 intro m H2 l2 u2 t2 s2;refine FK.of (n:=m.toNat) ∅ ∅ (fun i σ H'=>∃(cQ:List (List gZ))(ys:List V)(o3:Option V),σ=[some (.ref a),some (.bl bs),some (.ref p),o3]/\cQ.length=i/\ys.length=i/\(∀rs∈cQ,ac8 rs)/\H' p=some (.lst ys)/\ak (hid p (hid a H')) (cQ.map sX) ys/\Tp H' a (n+1+60*i)/\SX a H H')
  ⟨[],[],_,rfl,rfl,rfl,fun d h=>by simp at h,s2.get pa e1,ak.nil,t2,(SX.of s1).trans s2⟩ ?_ ?_
 ·rintro i σ H3 hi ⟨cQ,ys,o3,rfl,ld,ly,od,h3,a3,t3,s3⟩;ext;refine⟨.inl ⟨rfl,_,d7.of h3⟩,?_⟩;rw[RM];ext;refine(fun(hT:∀(r:Int) (H4:Hp),0<=r->r<4->Tp H4 a (n+1+60*i+1)->SX a H3 H4->∃i_1 j_1,V.int 1=V.int i_1/\V.int r=V.int j_1/\CK _ _ _ _ [.int (i_1+j_1)] H4)=>fj (fun _=>gf.of t3 ∅ ⋯ ⋯ fun r H4 l4 u4 t4 s4=>hT r H4 l4 ∅ t4 s4) (fun _=>gf.of t3 ∅ ⋯ ⋯ fun r H4 l4 u4 t4 s4=>hT r H4 l4 ∅ t4 s4)) ?_
  intro r H4 l4 u4 t4 s4;have h4:=s4.get pa h3;ext;refine CK.of (n:=(1+r).toNat) ∅ ∅ fun acc hacc=>?_
  have ca:acc≠a:=t4.ne hacc;have cp:acc≠p:=fun z=>by subst z; rw[hacc] at h4; cases h4
  refine⟨fun j zs H'=>∃es:List gZ,es.length=j/\zs.length=j/\(∀d∈es,Yx d)/\ak (hid acc (hid a H')) (es.map mX) zs/\H' acc=some (.lst zs)/\Tp H' a (n+1+60*i+1+12*j)/\SX a H4 H',?_,?_,?_⟩
  ·exact⟨[],rfl,rfl,fun d h=>by simp at h,ak.nil,aD,t4.kY ca,(SX.refl a H4).kY hacc ca⟩
  ·rintro j zs H5 hj ⟨es,le,lz,oe,a5,c5,t5,s5⟩;show rY _ _ _ _ [some _,some (.ref a),some (.bl bs)] H5 _;ext;refine Row.of t5 ∅ fun v d H6 rk a6 t6 s6=>?_
   have c6:=s6.get ca c5;have c6':hid a H6 acc=some (.lst zs):=by rw[dh ca]; exact c6
   refine⟨c6,(by rw[lz]; exact bC ∅),es++[d],by rw[c7,le]; rfl,by rw[c7,lz]; rfl,fun x hx=>?_,?_,aD,?_,?_⟩
   ·rcases lE.mp hx with z | z
    ·exact oe x z
    ·rw[fP.mp z]; exact rk
   ·rw[j7 ca,iV,iZ];exact(a5.mono (aF.hid s6)).append (ak.cons (At.pG c6' _ v (wM d) a6) ak.nil)
   ·exact(t6.kY ca).mono ∅
   ·exact(s5.trans s6).kY hacc ca
  ·rintro zs H6 ⟨es,le,lz,oe,a6,c6,t6,s6⟩;have h6:=s6.get pa h4;refine⟨acc,zs,rfl,c6,fun l hl=>?_⟩;have la:l≠a:=t6.ne hl;have lp:l≠p:=fun z=>by subst z; rw[hl] at h6; cases h6
   refine⟨p,ys,_,rfl,rfl,by rw[aP (Ne.symm lp)]; exact h6,by rw[ly]; exact bC ∅,?_⟩
   have A1:At (hid a (upd H6 l (.tup zs))) (sX es) (.ref l):=by
    rw[j7 la];have fr:hid a H6 l=none:=by rw[dh la]; exact hl
    exact At.tup aD ((a6.mono fO).mono (aM fr _))
   have h7:hid a (upd H6 l (.tup zs)) p=some (.lst ys):=by rw[dh pa,aP (Ne.symm lp)]; exact h6
   have s67:SX a H3 (upd H6 l (.tup zs)):=(s4.trans s6).trans (SX.of (aM hl _));refine⟨cQ++[es],ys++[.ref l],_,rfl,by rw[c7,ld]; rfl,by rw[c7,ly]; rfl,fun x hx=>?_,aD,?_,?_,?_⟩
   ·rcases lE.mp hx with z | z
    ·exact od x z
    ·rw[fP.mp z]; exact⟨∅,∅,oe⟩
   ·rw[j7 pa,iV,iZ];exact(a3.mono (aF.hid s67)).append (ak.cons (At.pG h7 _ _ (Js es) A1) ak.nil)
   ·exact((t6.kY la).kY pa).mono ∅
   ·exact(s3.trans s67).kY f1 pa
 ·rintro σ H3 ⟨cQ,ys,o3,rfl,ld,ly,od,h3,a3,t3,s3⟩;ext;refine⟨p,ys,rfl,h3,fun l hl=>?_⟩;have la:l≠a:=t3.ne hl;refine q l cQ _ ∅ od ?_ ((t3.kY la).mono ∅) (s3.trans (SX.of (aM hl _)))
  rw[j7 la];have fr:hid a H3 l=none:=by rw[dh la]; exact hl
  exact At.tup aD ((a3.mono fO).mono (aM fr _))
structure Eo(x:cP):Prop where
 p:1<=x.p/\x.p<=1000000
 m:U12 x.m
 lo:0<=x.lo/\x.lo<=x.hi
 hi:x.hi<=12
 a:x.a<=4
 e:1<=x.e/\x.e<=6
 u:0<=x.u/\x.u<=9
 d:0<=x.d/\x.d<=9
 n:x.cQ.length<=3
 r:∀rs∈x.cQ,ac8 rs
theorem Eo.is{x:cP}(h:Eo x):nQ x:=⟨h.a,by have:=h.p; omega,by have:=h.n; omega,fun rs hrs r hr=>((h.r rs hrs).g r hr).is⟩
def V0:Sp:=fun vs H Q _=>∃(a:Addr)(n:Nat),vs=[.ref a]/\Tp H a n/\n<=100000000/\∀p x H',Eo x->At (hid a H') (gH x) (.ref p)->Tp H' a (n+400)->SX a H H'->Q (.ref p) H'
theorem jZ:a_ ["_law_tape_here","_law_least","_law_hands","_law_rests","_law_late","_law_every"] ["_law_tape_here"] (aK jQ):=(by walk_at "c")
theorem v_(F:jc K "_law_small_post" "_law_small_post" jQ f fd)(B:Bi mg)(bH:Ct P w K mg base k "_law_draw" ["_law_tape_here","_law_many"] nZ)(Ul:Ct P w K mg base k "_law_rules" ["_law_tape_here","_law_small"] Ph):bZ P w K mg base iJ (k+1) f fd ["_law_tape_here"] V0:=by
 refine F.ok jZ (by rintro vs H Q E ⟨a,n,rfl,_⟩; rfl) (0:)
 obtain⟨a,n,rfl,tp,hn,q⟩:=h;have ND:=jZ.nd;refine⟨_,(aq (aX (i:=1) (pf bH hr (aa (pv 0) (aa ao aj)))) (aq (aX (i:=2) (aV (aa (pv 1) (aa (aO bK (aO bK (pv 1) ao) (pf bH hr (aa (pv 0) (aa ao aj)))) aj)))) (aq (aX (i:=3) (bB aW (bR (aa (aV (aa ao (aa ao aj))) (aa (aV (aa ao (aa ao aj))) (aa (aV (aa ao (aa ao aj))) (aa (aV (aa ao (aa ao aj))) aj))))) (pf bH hr (aa (pv 0) (aa ao aj))) (fun _ _=>rfl))) (aq (uU (i:=4) (j:=5) rfl ND rfl rfl ⋯ rfl rfl (aa (bB aW (bR (aa ao (aa ao (aa ao (aa ao aj))))) (pf bH hr (aa (pv 0) (aa ao aj))) (fun _ _=>rfl)) (aa (bB aW (bR (aa ao (aa ao (aa ao (aa ao aj))))) (pf bH hr (aa (pv 0) (aa ao aj))) (fun _ _=>rfl)) aj)) (by rfl)) (aG (aZ (aV (aa (aO bK ao (pf bH hr (aa (pv 0) (aa ao aj)))) (aa (aO bK ao (pf bH hr (aa (pv 0) (aa ao aj)))) (aa (pv 2) (aa (pv 4) (aa (pv 5) (aa (pv 3) (aa (pf Ul hr (aa (pv 0) (aa jX aj))) aj)))))))))))))),?_⟩
 ext;refine gf.of tp ∅ ⋯ ⋯ fun y1 H1 l1 u1 t1 s1=>?_
 ext;refine gf.of t1 ∅ ⋯ ⋯ fun y2 H2 l2 u2 t2 s2=>⟨_,_,rfl,rfl,⋯,fun p3 H3 f3 s3 e3=>?_⟩
 have n3:=t2.ne f3;refine⟨⋯,fun q1 G1 g1 r1 d1=>⟨⋯,fun q2 G2 g2 r2 d2=>⟨⋯,fun q3 G3 g3 r3 d3=>⟨⋯,fun q4 G4 g4 r4 d4=>⟨⋯,fun p4 H4 f4 s4 e4=>?_⟩⟩⟩⟩⟩
 have x34:aF H3 H4:=r1.trans (r2.trans (r3.trans (r4.trans s4)));have t4:=(t2.same s3).same x34;have m1:=((t2.same s3)).ne g1;have m2:=((t2.same s3).same r1).ne g2;have m3:=(((t2.same s3).same r1).same r2).ne g3;have m4:=((((t2.same s3).same r1).same r2).same r3).ne g4;have n4:=(((((t2.same s3).same r1).same r2).same r3).same r4).ne f4;refine gf.of t4 ∅ ⋯ ⋯ fun y5 H5 l5 u5 t5 s5=>?_
 have pick:∃(pr:Addr)(uu dd:Int),Ik [V.ref q1,V.ref q2,V.ref q3,V.ref q4] y5=some (.ref pr)/\pr≠a/\H5 pr=some (.tup [.int uu,.int dd])/\(0<=uu/\uu<=9)/\(0<=dd/\dd<=9):=by
  have:y5=0\/y5=1\/y5=2\/y5=3:=by omega
  rcases this with rfl | rfl | rfl | rfl
  ·exact⟨q1,0,0,bw (j:=0) rfl,m1,s5.get m1 (s4 _ _ (r4 _ _ (r3 _ _ (r2 _ _ d1)))),⋯,⋯⟩
  ·exact⟨q2,1,0,bw (j:=1) rfl,m2,s5.get m2 (s4 _ _ (r4 _ _ (r3 _ _ d2))),⋯,⋯⟩
  ·exact⟨q3,0,1,bw (j:=2) rfl,m3,s5.get m3 (s4 _ _ (r4 _ _ d3)),⋯,⋯⟩
  ·exact⟨q4,2,1,bw (j:=3) rfl,m4,s5.get m4 (s4 _ _ d4),⋯,⋯⟩
 obtain⟨pr,uu,dd,ep,npr,epr,hu,hd⟩:=pick;refine Ix.lst (s5.get n4 e4) ep ?_;refine⟨⋯,fun p6 H6 f6 s6 e6=>?_⟩
 have t6:=t5.same s6;have n6:=t5.ne f6;refine gf.of t6 ∅ ⋯ ⋯ fun y7 H7 l7 u7 t7 s7=>?_
 obtain⟨lt,hlt,elt⟩:=p_ (ts:=[0,1,0,2]) l7 u7
 have hlt':0<=lt/\lt<=2:=by
  simp only[bT,jW,or_false] at hlt;rcases hlt with rfl | rfl | rfl | rfl <;> omega
 refine Ix.lst (s7.get n6 e6) elt ?_;clear elt hlt l7 u7;refine⟨⋯,fun p8 H8 f8 s8 e8=>?_⟩
 have t8:=t7.same s8;have n8:=t7.ne f8;refine gf.of t8 ∅ ⋯ ⋯ fun y9 H9 l9 u9 t9 s9=>?_
 obtain⟨ev,hev,eev⟩:=p_ (ts:=[1,2,1,3]) l9 u9
 have ak2:1<=ev/\ev<=3:=by
  simp only[bT,jW,or_false] at hev;rcases hev with rfl | rfl | rfl | rfl <;> omega
 refine Ix.lst (s9.get n8 e8) eev ⟨_,_,rfl,?_⟩;clear eev hev l9 u9;refine gf.of t9 ∅ ⋯ ⋯ fun y10 Am l10 u10 t10 uM=>⟨_,_,rfl,rfl,?_⟩
 refine gf.of t10 ∅ ⋯ ⋯ fun y11 wJ l11 u11 t11 yh=>⟨_,_,rfl,rfl,?_⟩
 refine⟨a,_,true,rfl,t11,∅,fun p14 cQ H14 ag2 ag0 a14 t14 V_=>⟨⋯,fun QB UG f15 CP Oh=>?_⟩⟩
 have n15:=t14.ne f15;obtain⟨la,hla⟩:∃la:Nat,lt=(la:Int):=⟨lt.toNat,∅⟩
 rw[hla] at Oh;have x5:SX a H5 UG:=(SX.of s6).trans (s7.trans ((SX.of s8).trans (s9.trans (uM.trans (yh.trans (V_.trans (SX.of CP)))))));have x3:SX a H3 UG:=(SX.of x34).trans (s5.trans x5);refine q QB ⟨1+y10,3+y11,y1,y1+1+y2,la,ev,uu,dd,cQ⟩ UG ⟨by show 1<=1+y10/\1+y10<=1000000; omega,by show 0<=3+y11/\3+y11<=1000000000000; omega,by show 0<=y1/\y1<=y1+1+y2; omega,by show y1+1+y2<=12; omega,by show la<=4; omega,by show 1<=ev/\ev<=6; omega,hu,hd,ag2,ag0⟩ ?_ ((t14.same CP).mono ∅) ?_
 ·exact At.tup (by rw[dh n15]; exact Oh) (ak.cons (At.int _) (ak.cons (At.int _) (ak.cons (At.tup (by rw[dh n3]; exact x3.get n3 e3) (bI [y1,y1+1+y2])) (ak.cons (At.int _) (ak.cons (At.int _) (ak.cons (At.tup (by rw[dh npr]; exact x5.get npr epr) (bI [uu,dd])) (ak.cons (a14.mono (SX.of CP)) ak.nil)))))))
 ·exact s1.trans (s2.trans ((SX.of s3).trans x3))
abbrev Cv:=List (Int×Int)
def ZJ(p:Int×Int):PyData:=.tuple [.int p.1,.int p.2]
def Ii(c:Cv):PyData:=.tuple (c.map ZJ)
theorem Ws{H:Hp}{p:Int×Int}{v:V}(h:At H (ZJ p) v):∃a,v=.ref a/\H a=some (.tup [.int p.1,.int p.2]):=by
 obtain⟨a,xs,rfl,h1,h2⟩:=bz h;obtain⟨x1,_,rfl,a1,h2⟩:=ak.bf h2;obtain⟨x2,_,rfl,a2,h2⟩:=ak.bf h2;cases ak.jP h2;unfold At at a1 a2;subst a1 a2;exact⟨a,rfl,h1⟩
theorem vm{H:Hp}{c:Cv}{xs:List V}(hA:ak H (c.map ZJ) xs){i:Nat}{x:V}(hx:xs[i]?=some x):∃a,x=.ref a/\i<c.length/\H a=some (.tup [.int (c.getD i (0,0)).1,.int (c.getD i (0,0)).2]):=by
 obtain⟨d,hd,a⟩:=hA.get hx;rw[g_] at hd;cases e:c[i]? with
 | none=>rw[e] at hd; simp at hd
 | some r=>
  rw[e] at hd; simp at hd;subst hd;obtain⟨b,rfl,hb⟩:=Ws a;have eg:c.getD i (0,0)=r:=by rw[fD,e]; rfl
  obtain⟨hi,_⟩:=gC.mp e;rw[eg];exact⟨b,rfl,hi,hb⟩
theorem j0(l:List Int):bJ (l.map PyData.int)=true:=cL.mpr fun d hd=>by obtain⟨z,_,rfl⟩:=gW.mp hd; rfl
theorem ints_get{l:List Int}{i:Nat}{x:V}(h:(l.map V.int)[i]?=some x):i<l.length/\x=.int (l.getD i 0):=by
 rw[g_] at h;cases e:l[i]? with
 | none=>rw[e] at h; simp at h
 | some r=>
  rw[e] at h; simp at h;obtain⟨hi,_⟩:=gC.mp e;exact⟨hi,by rw[fD,e,<- h]; rfl⟩
theorem jh{l:List Int}{i:Nat}{x:PyData}(h:(l.map PyData.int)[i]?=some x):i<l.length/\x=.int (l.getD i 0):=by
 rw[g_] at h;cases e:l[i]? with
 | none=>rw[e] at h; simp at h
 | some r=>
  rw[e] at h; simp at h;obtain⟨hi,_⟩:=gC.mp e;exact⟨hi,by rw[fD,e,<- h]; rfl⟩
def xJ:Sp:=fun vs H Q _=>∃(v:V)(c:Cv),vs=[v]/\At H (Ii c) v/\c.length<=100/\∀p H',aF H H'->H' p=some (.tup ((c.map (·.1)).map V.int))->Q (.ref p) H'
theorem sU:a_ ["curve"] ["curve"] (aK oW):=(by walk_at "c")
theorem GD(F:jc K "bursts_of" "bursts_of" oW f fd)(B:Bi mg):bZ P w K mg base iJ (k+1) f fd ["curve"] xJ:=by
 refine F.ok sU (by rintro vs H Q E ⟨v,c,rfl,_⟩; rfl) (0:)
 obtain⟨v,c,rfl,hv,hn,q⟩:=h;have ND:=sU.nd;refine⟨_,(aG (aZ (pt (dZ) B.tuple dG (aa (gw (nt:=2) (N':=["burst","rate"]) (js:=[]) rfl (ig (K:=K) rfl (pv 0)) jH.of (fun fp s' H'=>(bG (K:=K) (n:=2) rfl rfl (aA (aC (i:=0) (by show List.Nodup (["burst","rate"]:List Str); decide) rfl (.inl (h_ rfl)) (.inr (h_ rfl))) (aA (aC (i:=1) (by show List.Nodup (["burst","rate"]:List Str); decide) rfl (.inl (h_ rfl)) (.inr (h_ rfl))) bF)))) (fun fp s' H'=>ik) (fun fp s' H'=>(pv 0))) aj)))),?_⟩
 obtain⟨a,xs,rfl,h1,h2⟩:=bz hv;ext;have hlen:xs.length=c.length:=by rw[h2.length,bW]
 refine Rh (es:=(c.map (·.1)).map PyData.int) (fun i=>[some (.int (c.getD i (0,0)).1),some (.int (c.getD i (0,0)).2)]) (fun i=>rfl) (fun R hR=>?_) h1 (by rw[bW,bW,hlen]) (by rw[bW,bW]; exact jK (bC ∅)) (j0 _) (fun i x H' hx s' R hR=>?_) (fun i e H' he s' R hR=>?_) (fun acc zs H' s' hacc hl hA=>?_)
 ·ext; exact hR
 ·obtain⟨b,rfl,hi,hb⟩:=vm h2 hx;refine⟨b,_,rfl,cB.of (s' _ _ hb),rfl,?_⟩;ext;exact hR
 ·obtain⟨hi,rfl⟩:=jh he;ext;refine hR _ _ (aF.refl _) ?_;rw[bW] at hi;have:(c.map (·.1)).getD i 0=(c.getD i (0,0)).1:=by rw[fD,fD,g_,gm hi]; rfl
  rw[this];exact At.int _
 ·cases cG hA;refine⟨acc,_,rfl,hl,fun l hl3=>?_⟩;exact q l _ (s'.trans (aM hl3 _)) aD
def agM:List Int->Int
 | []=>0
 | b::r=>lJ b r
def cY(c:Cv)(sp:List Int):Int:=agM (List.zipWith (fun p l=>p.2+l) c sp)
def fJ(c:Cv)(sp:List Int)(x:Int):List Int:=List.zipWith (fun p l=>if l+p.2-x<p.1 then l+p.2-x else p.1) c sp
theorem xg{c:Cv}{sp:List Int}(g:Int×Int->Int->Int){i:Nat}(h1:i<c.length)(h2:i<sp.length):(List.zipWith g c sp).getD i 0=g (c.getD i (0,0)) (sp.getD i 0):=by
 rw[fD,fD,fD,gm h1,gm h2,gm (by rw[Az]; omega),List.getElem_zipWith]
 rfl
def xH:Sp:=fun vs H Q _=>∃(v:V)(c:Cv)(q:Addr)(sp:List Int),vs=[v,.ref q]/\At H (Ii c) v/\H q=some (.tup (sp.map V.int))/\sp.length=c.length/\c≠[]/\c.length<=100/\∀H',aF H H'->Q (.int (cY c sp)) H'
theorem sE:a_ ["curve","spare"] ["curve","spare"] (aK oO):=(by walk_at "c")
theorem Gx(F:jc K "most_next" "most_next" oO f fd)(B:Bi mg):bZ P w K mg base iJ (k+1) f fd ["curve","spare"] xH:=by
 refine F.ok sE (by rintro vs H Q E ⟨v,c,q,sp,rfl,_⟩; rfl) (0:)
 obtain⟨v,c,qa,sp,rfl,hv,hq,hsp,hne,hn,q⟩:=h;have ND:=sE.nd;refine⟨_,(aG (aZ (pb (Ed rfl) B.min gO (aa (gw (nt:=3) (N':=["burst","rate","left"]) (js:=[]) rfl (wO (K:=K) rfl B.zip (aa (pv 0) (aa (pv 1) aj))) jH.of (fun fp s' H'=>(bG (K:=K) (n:=2) rfl rfl (aA (bG (K:=K) (n:=2) rfl rfl (aA (aC (i:=0) (by show List.Nodup (["burst","rate","left"]:List Str); decide) rfl (.inl (h_ rfl)) (.inr (h_ rfl))) (aA (aC (i:=1) (by show List.Nodup (["burst","rate","left"]:List Str); decide) rfl (.inl (h_ rfl)) (.inr (h_ rfl))) bF))) (aA (aC (i:=2) (by show List.Nodup (["burst","rate","left"]:List Str); decide) rfl (.inl (h_ rfl)) (.inr (h_ rfl))) bF)))) (fun fp s' H'=>ik) (fun fp s' H'=>(aO bK (pv 1) (pv 2)))) aj)))),?_⟩
 obtain⟨a,xs,rfl,h1,h2⟩:=bz hv;ext;have hlen:xs.length=c.length:=by rw[h2.length,bW]
 have zl:(List.zipWith (fun p l=>p.2+l) c sp).length=c.length:=by rw[Az]; omega
 refine Eb (es:=(List.zipWith (fun p l=>p.2+l) c sp).map PyData.int) (fun i=>[some (.int (c.getD i (0,0)).1),some (.int (c.getD i (0,0)).2),some (.int (sp.getD i 0))]) (fun i=>rfl) (fun R hR=>?_) h1 hq (by rw[bW,zl,hlen]) (by rw[bW,bW,zl,hsp]) (by rw[bW,zl]; exact jK (bC ∅)) (j0 _) (fun i x y p H' hx hy s' hp R hR=>?_) (fun i e H' he s' R hR=>?_) (fun acc zs H' s' hacc hl hA=>?_)
 ·ext; exact hR
 ·obtain⟨b,rfl,hi,hb⟩:=vm h2 hx;obtain⟨hi2,rfl⟩:=ints_get hy;refine⟨p,_,rfl,cB.of hp,rfl,?_⟩;ext;refine⟨b,_,rfl,cB.of (s' _ _ hb),rfl,?_⟩;ext;exact hR
 ·obtain⟨hi,rfl⟩:=jh he;ext;refine hR _ _ (aF.refl _) ?_;rw[zl] at hi;rw[xg _ hi ∅]
  exact At.int _
 ·cases cG hA;have zn:List.zipWith (fun p l=>p.2+l) c sp≠[]:=fun z=>by rw[z] at zl; exact hne (Wg.mp zl.symm)
  have qq:=q H' s';unfold cY at qq;generalize List.zipWith (fun(p:Int×Int)(l:Int)=>p.2+l) c sp=zz at *
  match zz,zn with
  | b::r,_=>exact⟨acc,b,r,rfl,hl,qq⟩
def Ml:Sp:=fun vs H Q _=>∃(v:V)(c:Cv)(q:Addr)(sp:List Int)(x:Int),vs=[v,.ref q,.int x]/\At H (Ii c) v/\H q=some (.tup (sp.map V.int))/\sp.length=c.length/\c.length<=100/\∀p H',aF H H'->H' p=some (.tup ((fJ c sp x).map V.int))->Q (.ref p) H'
theorem ou:a_ ["curve","spare","come"] ["curve","spare","come"] (aK lg):=(by walk_at "c")
theorem yR(F:jc K "spares_left" "spares_left" lg f fd)(B:Bi mg):bZ P w K mg base iJ (k+1) f fd ["curve","spare","come"] Ml:=by
 refine F.ok ou (by rintro vs H Q E ⟨v,c,q,sp,x,rfl,_⟩; rfl) (0:)
 obtain⟨v,c,qa,sp,x,rfl,hv,hq,hsp,hn,q⟩:=h;have ND:=ou.nd;refine⟨_,(aG (aZ (pt (dZ) B.tuple dG (aa (gw (nt:=3) (N':=["burst","rate","left","come"]) (js:=[2]) rfl (wO (K:=K) rfl B.zip (aa (pv 0) (aa (pv 1) aj))) jH.of (fun fp s' H'=>(bG (K:=K) (n:=2) rfl rfl (aA (bG (K:=K) (n:=2) rfl rfl (aA (aC (i:=0) (by show List.Nodup (["burst","rate","left","come"]:List Str); decide) rfl (.inl (h_ rfl)) (.inr (h_ rfl))) (aA (aC (i:=1) (by show List.Nodup (["burst","rate","left","come"]:List Str); decide) rfl (.inl (h_ rfl)) (.inr (h_ rfl))) bF))) (aA (aC (i:=2) (by show List.Nodup (["burst","rate","left","come"]:List Str); decide) rfl (.inl (h_ rfl)) (.inr (h_ rfl))) bF)))) (fun fp s' H'=>ik) (fun fp s' H'=>(pb (dN rfl) B.min gO (aa (pv 0) (aa (aO dX (aO bK (pv 2) (pv 1)) (pv 3)) aj))))) aj)))),?_⟩
 obtain⟨a,xs,rfl,h1,h2⟩:=bz hv;ext;have hlen:xs.length=c.length:=by rw[h2.length,bW]
 have zl:(fJ c sp x).length=c.length:=by unfold fJ; rw[Az]; omega
 refine Eb (es:=(fJ c sp x).map PyData.int) (fun i=>[some (.int (c.getD i (0,0)).1),some (.int (c.getD i (0,0)).2),some (.int (sp.getD i 0))]) (fun i=>rfl) (fun R hR=>?_) h1 hq (by rw[bW,zl,hlen]) (by rw[bW,bW,zl,hsp]) (by rw[bW,zl]; exact jK (bC ∅)) (j0 _) (fun i x y p H' hx hy s' hp R hR=>?_) (fun i e H' he s' R hR=>?_) (fun acc zs H' s' hacc hl hA=>?_)
 ·ext; exact hR
 ·obtain⟨b,rfl,hi,hb⟩:=vm h2 hx;obtain⟨hi2,rfl⟩:=ints_get hy;refine⟨p,_,rfl,cB.of hp,rfl,?_⟩;ext;refine⟨b,_,rfl,cB.of (s' _ _ hb),rfl,?_⟩;ext;exact hR
 ·obtain⟨hi,rfl⟩:=jh he;walk_at "cap";ext;refine hR _ _ (aF.refl _) ?_;rw[zl] at hi;unfold fJ;rw[xg _ hi ∅]
  exact At.int _
 ·cases cG hA;refine⟨acc,_,rfl,hl,fun l hl3=>?_⟩;exact q l _ (s'.trans (aM hl3 _)) aD
theorem ac0(c:Cv):bJ (c.map ZJ)=true:=cL.mpr fun d hd=>by obtain⟨z,_,rfl⟩:=gW.mp hd; rfl
def V1:Sp:=fun vs H Q _=>∃(v:V)(c:Cv)(q:Addr)(sp:List Int)(x:Int),vs=[v,.ref q,.int x]/\At H (Ii c) v/\H q=some (.tup (sp.map V.int))/\sp.length=c.length/\c≠[]/\c.length<=100/\x<=cY c sp/\∀p H',aF H H'->H' p=some (.tup ((fJ c sp x).map V.int))->Q (.ref p) H'
theorem oh:a_ ["curve","spare","come"] ["curve","spare","come"] (aK k_):=(by walk_at "c")
theorem yQ(F:jc K "spares_next" "spares_next" k_ f fd)(B:Bi mg)(cV:Ct P w K mg base k "most_next" ["curve","spare"] xH)(fW:Ct P w K mg base k "spares_left" ["curve","spare","come"] Ml):bZ P w K mg base iJ (k+1) f fd ["curve","spare","come"] V1:=by
 refine F.ok oh (by rintro vs H Q E ⟨v,c,q,sp,x,rfl,_⟩; rfl) (0:)
 obtain⟨v,c,qa,sp,x,rfl,hv,hq,hsp,hne,hn,hx,q⟩:=h;have ND:=oh.nd;refine⟨_,(aq (cX (bj jy (pv 2) (pf cV hr (aa (pv 0) (aa (pv 1) aj))) (bh _)) (aG aeG) bM) (aG (aZ (pf fW hr (aa (pv 0) (aa (pv 1) (aa (pv 2) aj))))))),?_⟩;ext;refine⟨_,c,qa,sp,rfl,hv,hq,hsp,hne,hn,fun H1 s1=>?_⟩;ext;rw[bD (by rw[decide_eq_true_eq]; omega)]
 refine⟨_,c,qa,sp,x,rfl,hv.mono s1,s1 _ _ hq,hsp,hn,fun p H2 s2 e2=>?_⟩;exact q _ _ (s1.trans s2) e2
structure En where
 st:dW
 sp:List Int
 fr:Option (Nat×Int)
def Hb(st:dW)(sp:List Int):PyData:=.tuple [nY st,.tuple (sp.map .int)]
def En.key(e:En):PyData:=Hb e.st e.sp
def frD:Option (Nat×Int)->List PyData
 | none=>[.none,.none]
 | some (p,c)=>[.int p,.int c]
def j9(e:En):PyData:=.tuple ([nY e.st,.tuple (e.sp.map .int)]++frD e.fr)
def en0:En:=⟨⟨0,0,[],0,0,[]⟩,[],none⟩
def fC(es:List En)(p:Nat):En:=es.getD p en0
def Ur(x:cP)(e:En)(c:Int):dW:=fU x (iw x e.st c)
def Ld(x:cP)(e:En)(c:Int):Int:=c-bU x e.st c
def qu(x:cP)(cv:Cv)(e:En)(p:Nat)(c:Int):En:=⟨Ur x e c,fJ cv e.sp c,some (p,c)⟩
noncomputable def Ai(x:cP)(cv:Cv)(e:En)(p:Nat)(es:List En)(c:Nat):List En:=if(qu x cv e p c).key∈es.map En.key then es else es++[qu x cv e p c]
noncomputable def Q6(x:cP)(cv:Cv)(e:En)(p:Nat)(es:List En):Nat->List En
 | 0=>es
 | c+1=>Ai x cv e p (Q6 x cv e p es c) c
def uw(cv:Cv)(e:En):Nat:=(cY cv e.sp+1).toNat
noncomputable def aR(x:cP)(cv:Cv)(st:dW):Nat->List En
 | 0=>[⟨fU x st,cv.map (·.1),none⟩]
 | p+1=>if p<(aR x cv st p).length then Q6 x cv (fC (aR x cv st p) p) p (aR x cv st p) (uw cv (fC (aR x cv st p) p)) else aR x cv st p
theorem iy(x:cP)(cv:Cv)(st:dW)(p:Nat):aR x cv st (p+1)=if p<(aR x cv st p).length then Q6 x cv (fC (aR x cv st p) p) p (aR x cv st p) (uw cv (fC (aR x cv st p) p)) else aR x cv st p:=rfl
noncomputable def cT(x:cP)(cv:Cv)(st:dW)(p c:Nat):List En:=Q6 x cv (fC (aR x cv st p) p) p (aR x cv st p) c
def Uq(x:cP)(bd:Option Int)(e:En)(c:Int):Bool:=match bd with
 | none=>false
 | some b=>decide ((Ur x e c).w>b) || decide (Ld x e c>0)
theorem Rr{x:cP}{cv:Cv}{e:En}{p:Nat}{es:List En}{c:Nat}:∃r,Ai x cv e p es c=es++r:=by
 unfold Ai;split
 ·exact⟨[],by simp⟩
 ·exact⟨_,rfl⟩
theorem zu{x:cP}{cv:Cv}{e:En}{p:Nat}{es:List En}:∀c,∃r,Q6 x cv e p es c=es++r
 | 0=>⟨[],by simp[Q6]⟩
 | c+1=>by
  obtain⟨r,hr⟩:=zu (x:=x) (cv:=cv) (e:=e) (p:=p) (es:=es) c;obtain⟨r',hr'⟩:=Rr (x:=x) (cv:=cv) (e:=e) (p:=p) (es:=Q6 x cv e p es c) (c:=c);exact⟨r++r',by show Ai x cv e p (Q6 x cv e p es c) c=_; rw[hr',hr,Ax]⟩
theorem Xi{x:cP}{cv:Cv}{st:dW}(p:Nat):∃r,aR x cv st (p+1)=aR x cv st p++r:=by
 rw[iy];split
 ·exact zu _
 ·exact⟨[],by simp⟩
theorem jN{x:cP}{cv:Cv}{st:dW}(p:Nat):∀d,∃r,aR x cv st (p+d)=aR x cv st p++r
 | 0=>⟨[],by simp⟩
 | d+1=>by
  obtain⟨r,hr⟩:=jN (x:=x) (cv:=cv) (st:=st) p d;obtain⟨r',hr'⟩:=Xi (x:=x) (cv:=cv) (st:=st) (p+d);exact⟨r++r',by rw[<- vM,hr',hr,Ax]⟩
theorem QM{x:cP}{cv:Cv}{st:dW}(p:Nat):1<=(aR x cv st p).length:=by
 obtain⟨r,hr⟩:=jN (x:=x) (cv:=cv) (st:=st) 0 p;rw[Aw] at hr;rw[hr];simp[aR]
theorem zm{x:cP}{cv:Cv}{st:dW}{p q:Nat}(h:p<=q):(aR x cv st p).length<=(aR x cv st q).length:=by
 obtain⟨r,hr⟩:=jN (x:=x) (cv:=cv) (st:=st) p (q-p);rw[show p+(q-p)=q by omega] at hr
 rw[hr,c7]; omega
theorem tY{x:cP}{cv:Cv}{st:dW}{p:Nat}(h:p<(aR x cv st p).length):aR x cv st (p+1)=cT x cv st p (uw cv (fC (aR x cv st p) p)):=by
 rw[iy,aL h]; rfl
theorem QR{x:cP}{cv:Cv}{st:dW}{n:Nat}(h:(aR x cv st n).length=n):∀d,aR x cv st (n+d)=aR x cv st n
 | 0=>rfl
 | d+1=>by
  have ih:=QR h d;rw[<- vM,iy,ih,bD (by rw[h]; omega)]
structure ur(cv:Cv)(e:En):Prop where
 st:iY e.st
 sl:e.sp.length=cv.length
 sp:∀(i:Nat)(b s:Int),(cv.map (·.1))[i]?=some b->e.sp[i]?=some s->s<=b
 nn:∀s∈e.sp,0<=s
structure Il(cv:Cv):Prop where
 ne:cv≠[]
 n:cv.length<=10
 u:∀p∈cv,0<=p.1/\0<=p.2
theorem GR:∀(r:List Int)(b:Int),lJ b r∈b::r/\∀y∈b::r,lJ b r<=y
 | [],b=>⟨by simp[lJ],fun y hy=>by rw[fP.mp hy]; exact sZ _⟩
 | x::r,b=>by
  have e:lJ b (x::r)=lJ (if x<b then x else b) r:=rfl
  rw[e];obtain⟨m,hm,h4,h5,h6⟩:∃m,(if x<b then x else b)=m/\m<=b/\m<=x/\(m=b\/m=x):=⟨_,rfl,by split <;> omega,by split <;> omega,by split <;> simp⟩
  rw[hm];obtain⟨h1,h2⟩:=GR r m;have h3:=h2 _ (jw);refine⟨?_,fun y hy=>?_⟩
  ·rcases bT.mp h1 with z | z
   ·rw[z]; rcases h6 with q | q <;> simp[q]
   ·simp[z]
  ·simp only[bT] at hy;rcases hy with z | z | z
   ·omega
   ·omega
   ·exact h2 y (iR _ z)
theorem GQ{cv:Cv}{sp:List Int}(hn:cv≠[])(hl:sp.length=cv.length):(∃(i:Nat)(p:Int×Int)(l:Int),cv[i]?=some p/\sp[i]?=some l/\cY cv sp=p.2+l)/\∀(i:Nat)(p:Int×Int)(l:Int),cv[i]?=some p->sp[i]?=some l->cY cv sp<=p.2+l:=by
 unfold cY;have hlen:(List.zipWith (fun(p:Int×Int) l=>p.2+l) cv sp).length=cv.length:=by rw[Az,hl,CV]
 have get:∀i:Nat,(List.zipWith (fun(p:Int×Int) l=>p.2+l) cv sp)[i]?=match cv[i]?,sp[i]? with | some p,some l=>some (p.2+l) | _,_=>none:=fun i=>by rw[Jz]; cases cv[i]? <;> cases sp[i]? <;> rfl
 generalize List.zipWith (fun(p:Int×Int) l=>p.2+l) cv sp=zs at hlen get
 match zs,hlen with
 | [],hlen=>exact absurd (Wg.mp hlen.symm) hn
 | b::r,_=>
  obtain⟨h1,h2⟩:=GR r b;refine⟨?_,fun i p l e1 e2=>h2 _ (jx (i:=i) (by rw[get,e1,e2]))⟩
  obtain⟨i,hi⟩:=Ba.mp h1;rw[get] at hi;cases e1:cv[i]? with
  | none=>rw[e1] at hi; cases hi
  | some p=>
   cases e2:sp[i]? with
   | none=>rw[e1,e2] at hi; cases hi
   | some l=>rw[e1,e2] at hi; exact⟨i,p,l,e1,e2,(Option.some.inj hi).symm⟩
theorem QH{cv:Cv}{sp:List Int}(h:Il cv)(hl:sp.length=cv.length)(hs:∀s∈sp,0<=s):0<=cY cv sp:=by
 obtain⟨⟨i,p,l,e1,e2,e⟩,_⟩:=GQ h.ne hl;have:=h.u p (jx e1);have:=hs l (jx e2);omega
theorem QL{cv:Cv}{sp:List Int}{c:Int}(h:Il cv)(hl:sp.length=cv.length)(hc:c<=cY cv sp):∀s∈fJ cv sp c,0<=s:=fun s hs=>by
 obtain⟨i,hi⟩:=Ba.mp hs;unfold fJ at hi;rw[Jz] at hi;cases e1:cv[i]? with
 | none=>rw[e1] at hi; cases hi
 | some p=>
  cases e2:sp[i]? with
  | none=>rw[e1,e2] at hi; cases hi
  | some l=>
   rw[e1,e2] at hi;cases hi;have:=(GQ h.ne hl).2 i p l e1 e2;have:=h.u p (jx e1);show 0<=(if l+p.2-c<p.1 then l+p.2-c else p.1)
   split <;> omega
theorem Ku{cv:Cv}{sp:List Int}{c:Int}(h:sp.length=cv.length):(fJ cv sp c).length=cv.length:=by
 unfold fJ;rw[Az,h,CV]
theorem aaj{cv:Cv}{sp:List Int}{c:Int}{i:Nat}{b s:Int}(h1:(cv.map (·.1))[i]?=some b)(h2:(fJ cv sp c)[i]?=some s):s<=b:=by
 unfold fJ at h2;rw[Jz] at h2;rw[g_] at h1;cases e1:cv[i]? with
 | none=>rw[e1] at h1; cases h1
 | some q=>
  rw[e1] at h1 h2;cases h1;cases e2:sp[i]? with
  | none=>rw[e2] at h2; cases h2
  | some l=>
   rw[e2] at h2;cases h2;show(if l+q.2-c<q.1 then l+q.2-c else q.1)<=q.1
   split <;> omega
theorem acw{x:cP}{cv:Cv}{e:En}{p:Nat}{c:Int}(hx:nQ x)(hv:Il cv)(h:ur cv e)(hc:c<=cY cv e.sp):ur cv (qu x cv e p c):=
 ⟨tW (tM hx h.st),Ku h.sl,fun i b s h1 h2=>aaj h1 h2,QL hv h.sl hc⟩
theorem aaK{x:cP}{cv:Cv}{e:En}{p:Nat}{es:List En}{c:Nat}(hx:nQ x)(hv:Il cv)(he:ur cv e)(hc:c<uw cv e)(h:∀y∈es,ur cv y):∀y∈Ai x cv e p es c,ur cv y:=by
 have hc':(c:Int)<=cY cv e.sp:=by unfold uw at hc; omega
 unfold Ai;split
 ·exact h
 ·intro y hy;rcases lE.mp hy with z | z
  ·exact h y z
  ·rw[fP.mp z]; exact acw hx hv he hc'
theorem Xz{x:cP}{cv:Cv}{e:En}{p:Nat}{es:List En}(hx:nQ x)(hv:Il cv)(he:ur cv e)(h:∀y∈es,ur cv y):∀c,c<=uw cv e->∀y∈Q6 x cv e p es c,ur cv y
 | 0,_=>h
 | c+1,hc=>aaK hx hv he hc (Xz hx hv he h c ∅)
theorem qp{es:List En}{p:Nat}(h:p<es.length):fC es p∈es/\es[p]?=some (fC es p):=by
 have e:es[p]?=some (fC es p):=by unfold fC; rw[fD,gm h]; rfl
 exact⟨jx e,e⟩
theorem wR{x:cP}{cv:Cv}{st:dW}(hx:nQ x)(hv:Il cv)(hs:iY st):∀p,∀y∈aR x cv st p,ur cv y
 | 0=>fun y hy=>by
  rw[fP.mp hy]
  exact⟨tW hs,by rw[bW],fun i b s h1 h2=>by
   have h2:(cv.map (·.1))[i]?=some s:=h2
   rw[h1] at h2; cases h2; exact sZ _,fun s hs'=>by
   obtain⟨p,hp,rfl⟩:=gW.mp (show s∈cv.map (·.1) from hs')
   exact(hv.u p hp).1⟩
 | p+1=>by
  have ih:=wR (cv:=cv) hx hv hs p;rw[iy];split
  ·rename_i h;exact Xz hx hv (ih _ (qp h).1) ih _ (dM _)
  ·exact ih
theorem Du:∀{l l':List Int}{b b':Int},b<=b'->l.length=l'.length->(∀(i:Nat)(x y:Int),l[i]?=some x->l'[i]?=some y->x<=y)->lJ b l<=lJ b' l'
 | [],[],b,b',h,_,_=>h
 | [],_::_,_,_,_,h,_=>by simp at h
 | _::_,[],_,_,_,h,_=>by simp at h
 | x::l,y::l',b,b',h,hl,ha=>by
  have h0:=ha 0 x y rfl rfl;show lJ (if x<b then x else b) l<=lJ (if y<b' then y else b') l'
  refine Du ?_ (by simpa using hl) fun i x' y' h1 h2=>ha (i+1) x' y' h1 h2
  split <;> split <;> omega
theorem Z_{cv:Cv}{sp:List Int}(hl:sp.length=cv.length)(h:∀(i:Nat) (b s:Int),(cv.map (·.1))[i]?=some b->sp[i]?=some s->s<=b):cY cv sp<=cY cv (cv.map (·.1)):=by
 unfold cY
 have key:∀(i:Nat)(x y:Int),(List.zipWith (fun(p:Int×Int) l=>p.2+l) cv sp)[i]?=some x->(List.zipWith (fun(p:Int×Int) l=>p.2+l) cv (cv.map (·.1)))[i]?=some y->x<=y:=fun i x y h1 h2=>by
  rw[Jz] at h1 h2;cases e1:cv[i]? with
  | none=>rw[e1] at h1; cases h1
  | some q=>
   have e2:(cv.map (·.1))[i]?=some q.1:=by rw[g_,e1]; rfl
   rw[e1,e2] at h2;rw[e1] at h1;cases e3:sp[i]? with
   | none=>rw[e3] at h1; cases h1
   | some l=>
    rw[e3] at h1;cases h1; cases h2;have:=h i q.1 l e2 e3;show q.2+l<=q.2+q.1;omega
 have l1:(List.zipWith (fun(p:Int×Int) l=>p.2+l) cv sp).length=cv.length:=by rw[Az,hl,CV]
 have l2:(List.zipWith (fun(p:Int×Int) l=>p.2+l) cv (cv.map (·.1))).length=cv.length:=by rw[Az,bW,CV]
 generalize List.zipWith (fun(p:Int×Int) l=>p.2+l) cv sp=a at key l1;generalize List.zipWith (fun(p:Int×Int) l=>p.2+l) cv (cv.map (·.1))=b at key l2
 match a,b,l1,l2 with
 | [],[],_,_=>exact sZ _
 | [],_::_,l1,l2=>rw[<- l1] at l2; simp at l2
 | _::_,[],l1,l2=>rw[<- l1] at l2; simp at l2
 | x::a,y::b,l1,l2=>
  exact Du (key 0 x y rfl rfl) (by simp at l1 l2; omega) fun i x' y' h1 h2=>key (i+1) x' y' h1 h2
theorem abx{cv:Cv}{e:En}(h:ur cv e)(hw:cY cv (cv.map (·.1))<=23):uw cv e<=24:=by
 have:=Z_ h.sl h.sp;unfold uw;omega
theorem zp(st:dW)(sp:List Int):qK (Hb st sp):=by
 have hi:∀l:List Int,gM (l.map .int)=true:=fun l=>yZ.mpr fun d hd=>by obtain⟨x,_,rfl⟩:=gW.mp hd; rfl
 have ht:gM (st.us.map jD)=true:=yZ.mpr fun d hd=>by
  obtain⟨u,_,rfl⟩:=gW.mp hd;exact hi u
 refine⟨⟨_,rfl⟩,?_,?_⟩
 ·show gM _=true;simp only[gM,rm,nY,hi,ht,Bool.and_self]
 ·have di:∀l:List Int,PyData.depthAll (l.map .int)<=0:=fun l=>by
   induction l with
   | nil=>exact dM _
   | cons x l ih=>show max 0 (PyData.depthAll (l.map .int))<=0; omega
  have dt:PyData.depthAll (st.us.map jD)<=1:=by
   generalize st.us=us
   induction us with
   | nil=>exact fG _
   | cons u us ih=>
    have:=di u;show max (PyData.depthAll (u.map .int)+1) (PyData.depthAll (us.map jD))<=1;omega
  have d1:=di st.cs;have d2:=di sp;unfold Hb nY;simp only[PyData.depth,PyData.depthAll];omega
def Ep(x:cP)(cv:Cv)(st:dW)(bd:Option Int)(p c:Nat):Prop:=∀p' c':Nat,(p'<p\/p'=p/\c'<c)->p'<(aR x cv st p').length->c'<uw cv (fC (aR x cv st p') p')->Uq x bd (fC (aR x cv st p') p') c'=false
structure pP(x:cP)(cv:Cv)(st:dW)(bd:Option Int)(lim:Int)(n:Nat):Prop where
 hn:(aR x cv st n).length=n
 hb:Ep x cv st bd n 0
 hl:n=1\/(n:Int)<=lim
structure pR(x:cP)(cv:Cv)(st:dW)(bd:Option Int)(lim:Int)(p c:Nat):Prop where
 hp:p<(aR x cv st p).length
 hc:c<uw cv (fC (aR x cv st p) p)
 hb:Ep x cv st bd p c
 hk:Uq x bd (fC (aR x cv st p) p) c=true
 hl:(cT x cv st p c).length=1\/((cT x cv st p c).length:Int)<=lim
structure vy(x:cP)(cv:Cv)(st:dW)(bd:Option Int)(lim:Int)(p c:Nat):Prop where
 hp:p<(aR x cv st p).length
 hc:c<uw cv (fC (aR x cv st p) p)
 hb:Ep x cv st bd p (c+1)
 hk:(qu x cv (fC (aR x cv st p) p) p c).key∉(cT x cv st p c).map En.key
 hl:lim<=(cT x cv st p c).length
def eZ(es:List En):Nat->Nat->List Int
 | 0,_=>[]
 | fuel+1,p=>match (fC es p).fr with
  | none=>[]
  | some (q,c)=>eZ es fuel q++[c]
theorem jo{es r:List En}{p:Nat}(h:p<es.length):fC (es++r) p=fC es p:=by
 unfold fC;rw[fD,fD,v8 h]
theorem aaI{x:cP}{cv:Cv}{st:dW}{p c:Nat}(h:p<(aR x cv st p).length):fC (cT x cv st p c) p=fC (aR x cv st p) p:=by
 obtain⟨r,hr⟩:=zu (x:=x) (cv:=cv) (e:=fC (aR x cv st p) p) (p:=p) (es:=aR x cv st p) c;unfold cT;rw[hr,jo h]
theorem tH{x:cP}{cv:Cv}{st:dW}{p c:Nat}:(aR x cv st p).length<=(cT x cv st p c).length:=by
 obtain⟨r,hr⟩:=zu (x:=x) (cv:=cv) (e:=fC (aR x cv st p) p) (p:=p) (es:=aR x cv st p) c;unfold cT;rw[hr,c7]; omega
theorem jY{x:cP}{cv:Cv}{st:dW}{p c:Nat}:cT x cv st p (c+1)=if(qu x cv (fC (aR x cv st p) p) p c).key∈(cT x cv st p c).map En.key then cT x cv st p c else cT x cv st p c++[qu x cv (fC (aR x cv st p) p) p c]:=rfl
def BP(es:List En):Prop:=∀(i q:Nat)(c:Int),i<es.length->(fC es i).fr=some (q,c)->q<i
theorem BP.snoc{es:List En}{e:En}(h:BP es)(he:∀q c,e.fr=some (q,c)->q<es.length):BP (es++[e]):=fun i q c hi hf=>by
 by_cases z:i<es.length
 ·rw[jo z] at hf; exact h i q c z hf
 ·have:i=es.length:=by rw[c7] at hi; simp at hi; omega
  subst this;have ee:fC (es++[e]) es.length=e:=by unfold fC; rw[fD,tE (dM _),tu]; rfl
  rw[ee] at hf;exact he q c hf
theorem Xy{x:cP}{cv:Cv}{e:En}{p:Nat}{es:List En}(hp:p<es.length)(h:BP es):∀c,BP (Q6 x cv e p es c)
 | 0=>h
 | c+1=>by
  have ih:=Xy (x:=x) (cv:=cv) (e:=e) hp h c;show BP (Ai x cv e p (Q6 x cv e p es c) c);unfold Ai;split
  ·exact ih
  ·refine ih.snoc fun q c' hf=>?_;cases hf;obtain⟨r,hr⟩:=zu (x:=x) (cv:=cv) (e:=e) (p:=p) (es:=es) c;rw[hr,c7]; omega
theorem rB{x:cP}{cv:Cv}{st:dW}:∀p,BP (aR x cv st p)
 | 0=>fun i q c hi hf=>by
  have:i=0:=by simp[aR] at hi; exact hi
  subst this;cases hf
 | p+1=>by
  rw[iy];split
  ·rename_i h;exact Xy h (rB p) _
  ·exact rB p
theorem WM{x:cP}{cv:Cv}{st:dW}{p c:Nat}(h:p<(aR x cv st p).length):BP (cT x cv st p c):=Xy h (rB p) c
structure ZL(K:Frag)(mg:Str->Option Value)(aH aJ:Addr):Prop where
 HS:mg "TooMany" = some (.ref aH)
 HR:mg "TooWide" = some (.ref aJ)
 M6:excIn K aH veM "ValueError.__new__" = true
 M5:excIn K aJ veM "ValueError.__new__" = true
 acW:exmOne K (.ref aH) (.ref aH)=some true
 acV:exmOne K (.ref aJ) (.ref aJ)=some true
variable{aH aJ:Addr}
def VH:Sp:=fun vs H Q _=>∃(v:V)(c:Cv),vs=[v]/\At H (Ii c) v/\c≠[]/\c.length<=100/\∀H',aF H H'->Q (.bl (decide (cY c (c.map (·.1))>23))) H'
theorem oG:a_ ["curve"] ["curve"] (aK lA):=(by walk_at "c")
theorem yU(F:jc K "is_too_wide" "is_too_wide" lA f fd)(O:Co K mg)(cV:Ct P w K mg base k "most_next" ["curve","spare"] xH)(iC:Ct P w K mg base k "bursts_of" ["curve"] xJ):bZ P w K mg base iJ (k+1) f fd ["curve"] VH:=by
 refine F.ok oG (by rintro vs H Q E ⟨v,c,rfl,_⟩; rfl) (0:)
 obtain⟨v,c,rfl,a1,hc,hl,q⟩:=h;have ND:=oG.nd;refine⟨_,(aG (aZ (eY jy (pf cV hr (aa (pv 0) (aa (pf iC hr (aa (pv 0) aj)) aj))) (My O.Er) (bh _)))),?_⟩;ext;refine⟨v,c,rfl,a1,hl,fun p H1 s1 e1=>⟨v,c,p,c.map (·.1),rfl,a1.mono s1,e1,by rw[bW],hc,hl,fun H2 s2=>?_⟩⟩
 exact⟨_,_,rfl,rfl,q H2 (s1.trans s2)⟩
def Jj:Sp:=fun vs H Q _=>∃(v u cv:V)(x:cP)(st:dW)(c:Cv),vs=[v,u,cv]/\At H (gH x) v/\At H (nY st) u/\At H (Ii c) cv/\O7 x/\iY st/\c.length<=100/\∀p v1 p2 H',aF H H'->At H' (nY (fU x st)) v1->H' p2=some (.tup ((c.map (·.1)).map V.int))->H' p=some (.tup [v1,.ref p2,.non,.non])->Q (.ref p) H'
theorem oJ:a_ ["post","stand","curve"] ["post","stand","curve"] (aK lD):=(by walk_at "c")
theorem yW(F:jc K "first_entry" "first_entry" lD f fd)(vp:Ct P w K mg base k "lean" ["post","stand"] FP)(iC:Ct P w K mg base k "bursts_of" ["curve"] xJ):bZ P w K mg base iJ (k+1) f fd ["post","stand","curve"] Jj:=by
 refine F.ok oJ (by rintro vs H Q E ⟨v,u,cv,x,st,c,rfl,_⟩; rfl) (0:)
 obtain⟨v,u,cv,x,st,c,rfl,a1,a2,a3,hn,hs,hl,q⟩:=h;have ND:=oJ.nd;refine⟨_,(aG (aZ (aV (aa (pf vp hr (aa (pv 0) (aa (pv 1) aj))) (aa (pf iC hr (aa (pv 2) aj)) (aa d9 (aa d9 aj))))))),?_⟩;ext;refine Lean.of a1 a2 hn hs fun u1 H1 s1 b1=>⟨cv,c,rfl,a3.mono s1,hl,fun p2 H2 s2 e2=>⟨⋯,fun p3 H3 f3 s3 e3=>?_⟩⟩
 exact q p3 u1 p2 H3 (s1.trans (s2.trans s3)) (b1.mono (s2.trans s3)) (s3 _ _ e2) e3
theorem mD{H:Hp}{e:En}{v:V}(h:At H (j9 e) v):∃a v1 p2 v3 v4,v=.ref a/\H a=some (.tup [v1,.ref p2,v3,v4])/\At H (nY e.st) v1/\H p2=some (.tup (e.sp.map V.int))/\(e.fr=none/\v3=.non/\v4=.non\/∃p c,e.fr=some (p,c)/\v3=.int (p:Nat)/\v4=.int c):=by
 obtain⟨st,sp,fr⟩:=e;cases fr with
 | none=>
  obtain⟨a,xs,rfl,h1,k0⟩:=bz h;obtain⟨v1,_,rfl,b1,k1⟩:=ak.bf k0;obtain⟨v2,_,rfl,b2,k2⟩:=ak.bf k1;obtain⟨p2,ys,rfl,g1,g2⟩:=bz b2;cases cG g2;have k2:ak H [.none,.none] _:=k2;obtain⟨v3,_,rfl,b3,k3⟩:=ak.bf k2;obtain⟨v4,_,rfl,b4,k4⟩:=ak.bf k3;cases ak.jP k4;unfold At at b3 b4;subst b3 b4;exact⟨a,v1,p2,_,_,rfl,h1,b1,g1,.inl ⟨rfl,rfl,rfl⟩⟩
 | some pc=>
  obtain⟨p,c⟩:=pc;obtain⟨a,xs,rfl,h1,k0⟩:=bz h;obtain⟨v1,_,rfl,b1,k1⟩:=ak.bf k0;obtain⟨v2,_,rfl,b2,k2⟩:=ak.bf k1;obtain⟨p2,ys,rfl,g1,g2⟩:=bz b2;cases cG g2;have k2:ak H [.int (p:Nat),.int c] _:=k2;obtain⟨v3,_,rfl,b3,k3⟩:=ak.bf k2;obtain⟨v4,_,rfl,b4,k4⟩:=ak.bf k3;cases ak.jP k4;unfold At at b3 b4;subst b3 b4;exact⟨a,v1,p2,_,_,rfl,h1,b1,g1,.inr ⟨p,c,rfl,rfl,rfl⟩⟩
def PB:Sp:=fun vs H Q _=>∃(cv v:V)(c:Cv)(e:En),vs=[cv,v]/\At H (Ii c) cv/\At H (j9 e) v/\Il c/\ur c e/\uw c e<=100/\∀p H',H p=none->aF H H'->H' p=some (.lst ((List.range (uw c e)).map fun(i:Nat)=>V.int i))->Q (.ref p) H'
theorem qF:a_ ["curve","entry"] ["curve","entry"] (aK mV):=(by walk_at "c")
theorem Bg(F:jc K "comes_next" "comes_next" mV f fd)(B:Bi mg)(cV:Ct P w K mg base k "most_next" ["curve","spare"] xH):bZ P w K mg base iJ (k+1) f fd ["curve","entry"] PB:=by
 refine F.ok qF (by rintro vs H Q E ⟨cv,v,c,e,rfl,_⟩; rfl) (0:)
 obtain⟨cv,v,c,e,rfl,a1,a2,hv,he,hm,q⟩:=h;have ND:=qF.nd;refine⟨_,(aG (aZ (pt (Ug hr.hd) B.list iW (aa (pt (Uc) B.range K_ (aa (aO bK (pf cV hr (aa (pv 0) (aa (bB aW (pv 1) ao (fun _ _=>rfl)) aj))) ao) aj)) aj)))),?_⟩;obtain⟨a,v1,p2,v3,v4,rfl,g1,g2,g3,g4⟩:=mD a2;ext;refine Ix.tup g1 (v:=.ref p2) rfl ⟨cv,c,p2,e.sp,rfl,a1,g3,he.sl,hv.ne,(by have:=hv.n; omega),fun H1 s1=>?_⟩
 have hm0:=QH hv he.sl he.nn;have hm':(cY c e.sp+1).toNat<=100:=hm;refine⟨_,_,rfl,rfl,∅,∅,fun p3 H3 f3 s3 e3=>⟨p3,_,rfl,e3,∅,∅,∅,fun l H4 f4 s4 e4=>?_⟩⟩
 have z:=s1.trans (s3.trans s4);exact q l H4 (aF.free (s1.trans s3) f4) z e4
def Pj:Sp:=fun vs H Q _=>∃(v cv u:V)(x:cP)(c:Cv)(e:En)(cm:Int),vs=[v,cv,u,.int cm]/\At H (gH x) v/\At H (Ii c) cv/\At H (j9 e) u/\nQ x/\O7 x/\ur c e/\c.length<=100/\∀p v1 p2 H',aF H H'->At H' (nY (Ur x e cm)) v1->H' p2=some (.tup ((fJ c e.sp cm).map V.int))->H' p=some (.tup [v1,.ref p2,.int (Ld x e cm)])->Q (.ref p) H'
theorem Cq:a_ ["post","curve","entry","come","behind","done","away","change"] ["post","curve","entry","come"] (aK xX):=(by walk_at "c")
theorem SN(F:jc K "led_to" "led_to" xX f fd)(vp:Ct P w K mg base k "lean" ["post","stand"] FP)(O3:CtD P w K mg base k "beat" ["post","stand","come","free"] 12 V3)(fW:Ct P w K mg base k "spares_left" ["curve","spare","come"] Ml):bZ P w K mg base iJ (k+1) f fd ["post","curve","entry","come"] Pj:=by
 refine F.ok Cq (by rintro vs H Q E ⟨v,cv,u,x,c,e,cm,rfl,_⟩; rfl) (0:)
 obtain⟨v,cv,u,x,c,e,cm,rfl,a1,a2,a3,hx,hn,he,hl,q⟩:=h;have ND:=Cq.nd;refine⟨_,(aq (cJ (pfd O3 hr (aa (pv 0) (aa (bB aW (pv 2) ao (fun _ _=>rfl)) (aa (pv 3) aj)))) (bG (K:=K) (n:=4) rfl rfl (aA (aC (i:=4)) (aA (aC (i:=5)) (aA (aC (i:=6)) (aA (aC (i:=7)) bF)))))) (aG (aZ (aV (aa (pf vp hr (aa (pv 0) (aa (pv 4) aj))) (aa (pf fW hr (aa (pv 1) (aa (bB aW (pv 2) ao (fun _ _=>rfl)) (aa (pv 3) aj)))) (aa (pv 6) aj))))))),?_⟩
 obtain⟨a,v1,p2,v3,v4,rfl,g1,g2,g3,g4⟩:=mD a3;ext;refine Ix.tup g1 (v:=v1) rfl ⟨v,v1,x,e.st,cm,12,rfl,a1,g2,hx,he.st,fun p5 u5 H5 s5 a5 e5=>⟨p5,_,rfl,cB.of e5,rfl,?_⟩⟩;ext;refine Lean.of (a1.mono s5) a5 hn (tM hx he.st) fun u6 H6 s6 a6=>?_;have s56:=s5.trans s6;refine Ix.tup (s56 _ _ g1) (v:=.ref p2) rfl ⟨cv,c,p2,e.sp,cm,rfl,a2.mono s56,s56 _ _ g3,he.sl,hl,fun p7 H7 s7 e7=>⟨⋯,fun p8 H8 f8 s8 e8=>?_⟩⟩
 exact q p8 u6 p7 H8 (s56.trans (s7.trans s8)) (a6.mono (s7.trans s8)) (s8 _ _ e7) e8
def Jm:Sp:=fun vs H Q _=>∃(b:Int)(v:V)(aw:Int)(st:dW),vs=[.int b,v,.int aw]/\At H (nY st) v/\∀H',aF H H'->Q (.bl (decide (st.w>b) || decide (aw>0))) H'
theorem CJ:a_ ["bound","behind","away"] ["bound","behind","away"] (aK yg):=(by walk_at "c")
theorem S_(F:jc K "breaks" "breaks" yg f fd):bZ P w K mg base iJ (k+1) f fd ["bound","behind","away"] Jm:=by
 refine F.ok CJ (by rintro vs H Q E ⟨b,v,aw,st,rfl,_⟩; rfl) (0:)
 obtain⟨b,v,aw,st,rfl,a1,q⟩:=h;have ND:=CJ.nd;refine⟨_,(aG (aZ (abf (eY jy (bB aW (pv 1) ao (fun _ _=>rfl)) (pv 0) (bh _)) (qZ (eY jy (pv 2) ao (bh _)))))),?_⟩;obtain⟨sa,sb,sc,rfl,g1,g2,g3⟩:=iu a1;ext;refine Ix.tup g1 (v:=.int st.w) rfl ⟨_,_,rfl,rfl,?_⟩;have q1:Q (.bl (decide (b<st.w) || decide (0<aw))) H:=q H (aF.refl H);cases e1:decide (b<st.w) with
 | true=>rw[e1] at q1; rw[aL rfl]; exact q1
 | false=>rw[e1] at q1; rw[bD ⋯]; exact q1
def VR(C:Addr):Sp:=fun vs H Q E=>∃(l:Addr)(ys:List V)(lim:Int),vs=[.ref l,.int lim]/\H l=some (.lst ys)/\0<=lim/\lim<=1000/\((ys.length:Int)<lim->∀H',aF H H'->Q .non H')/\(lim<=(ys.length:Int)->∀H',aF H H'->E (.ref C) none H')
theorem qG:a_ ["entries","limit"] ["entries","limit"] (aK mW):=(by walk_at "c")
theorem Bh(F:jc K "check_room" "check_room" mW f fd)(B:Bi mg)(Z:ZL K mg aH aJ):bZ P w K mg base (pQ P w) (k+1) f fd ["entries","limit"] (VR aH):=by
 refine F.okE qG (by rintro vs H Q E ⟨l,ys,lim,rfl,_⟩; rfl) (fun cdv A outer s H vs Q E UW hr h=>?_)
 obtain⟨l,ys,lim,rfl,hl,h1,h2,q1,q2⟩:=h;have ND:=qG.nd;refine⟨_,(aG (cX (bj QD (pb (jk (K:=K) rfl) B.len rP (aa (pv 0) aj)) (pv 1) (bh _)) (aG (J6 ⟨Z.HS,Z.M6⟩ UW (aa (abg (pZ cD (pZ (abh (pv 1)) (pZ cD Wu)))) aj))) bM)),?_⟩;ext;refine⟨l,ys,rfl,.inl (d7.of hl),⟨_,_,rfl,rfl,?_⟩⟩;by_cases c1:lim<=(ys.length:Int)
 ·rw[aL (ju c1)];have hd:=Yc (n:=lim) (k:=4) ⋯ ∅
  have l1:(Str.ofString "more than ").length=10:=rfl;have l2:(Str.ofString " entries").length=8:=rfl;have l0:Str.empty.length=0:=rfl
  have e3:(Str.empty++Str.ofString "more than " ++ tx (dg lim)++Str.ofString " entries").length<=sizeLine:=by
   simp only[Str.length_append,uz,l0,l1,l2,sizeLine_eq]; omega
  refine⟨_,rfl,?_,_,X5 ∅ ∅,?_,_,rfl,?_,_,rfl,e3,e3,⋯,fun H' s'=>q2 c1 H' s'⟩
  ·simp only[Str.length_append,l0,l1,sizeLine_eq]; omega
  ·rw[uz,sizeLine_eq]; omega
  ·simp only[Str.length_append,uz,l0,l1,sizeLine_eq]; omega
 ·rw[bD (by simpa using c1)]
  exact q1 ∅ H (aF.refl H)
theorem qm{H:Hp}{es:List En}{ys:List V}(h:ak H (es.map j9) ys){p:Nat}(hp:p<es.length):∃y,ys[p]?=some y/\At H (j9 (fC es p)) y:=by
 have hl:ys.length=es.length:=by rw[h.length,bW]
 have hy:ys[p]?=some (ys[p]'∅):=gm ∅
 obtain⟨d,e1,e2⟩:=h.get hy;rw[g_,(qp hp).2] at e1;cases e1;exact⟨_,hy,e2⟩
theorem KJ(e:En):kE (j9 e)=true:=by
 have h1:=pX e.st;have h2:=jz e.sp;unfold j9 frD;cases e.fr <;> simp[kE,bJ,h1,h2]
theorem qi(es:List En):bJ (es.map j9)=true:=cL.mpr fun d hd=>by obtain⟨e,_,rfl⟩:=gW.mp hd; exact KJ e
def FrV(fr:Option (Nat×Int))(v3 v4:V):Prop:=fr=none/\v3=.non/\v4=.non\/∃p c,fr=some (p,c)/\v3=.int (p:Nat)/\v4=.int c
theorem uW{es:List En}(hq:∀(i q:Nat) (c:Int),i<es.length->(fC es i).fr=some (q,c)->q<i):∀(i f g:Nat),i<es.length->i<f->i<g->eZ es f i=eZ es g i:=by
 intro i
 induction i using Nat.strongRecOn with
 | _ i ih=>
  intro f g hi hf hg;obtain⟨f',rfl⟩:∃f',f=f'+1:=⟨f-1,∅⟩
  obtain⟨g',rfl⟩:∃g',g=g'+1:=⟨g-1,∅⟩
  unfold eZ;cases e:(fC es i).fr with
  | none=>rfl
  | some pc=>
   obtain⟨q,c⟩:=pc;have hlt:=hq i q c hi e;dsimp only;rw[ih q hlt f' g' ∅ ∅ ∅]
def Jh:Sp:=fun vs H Q _=>∃(l:Addr)(ys:List V)(es:List En)(p:Nat),vs=[.ref l,.int p]/\H l=some (.lst ys)/\ak H (es.map j9) ys/\p<es.length/\es.length<=1000/\(∀(i q:Nat)(c:Int),i<es.length->(fC es i).fr=some (q,c)->q<i)/\∀r H',H r=none->aF H H'->H' r=some (.lst ((eZ es es.length p).map V.int))->Q (.ref r) H'
theorem xN:a_ ["entries","place","load","came_from","come"] ["entries","place"] (aK uG):=(by walk_at "c")
theorem MJ(F:jc K "load_to" "load_to" uG f fd):bZ P w K mg base iJ (k+1) f fd ["entries","place"] Jh:=by
 refine F.ok xN (by rintro vs H Q E ⟨l,ys,es,p,rfl,_⟩; rfl) (0:)
 obtain⟨l,ys,es,p,rfl,hl,ha,hp,hn,hq,q⟩:=h;have ND:=xN.nd;refine⟨_,(aq (aX (i:=2) (bR aj)) (aq (cJ (cz eX (bB aW (pv 0) (pv 1) (fun _ _=>rfl)) (cN ao) dC) (bG (K:=K) (n:=2) rfl rfl (aA (aC (i:=3)) (aA (aC (i:=4)) bF)))) (aq (J5 PassesOwn.never (bj qd (pv 4) d9 (bh _)) (aq (eQ (gJ (K:=K) rfl PySem.F.plainAttrs_list PySem.F.slot_list_append PySem.F.type_list_append dY (pv 2) (aa (pv 4) aj))) (aG (cJ (cz eX (bB aW (pv 0) (pv 3) (fun _ _=>rfl)) (cN ao) dC) (bG (K:=K) (n:=2) rfl rfl (aA (aC (i:=3)) (aA (aC (i:=4)) bF))))))) (aG (aZ (ZV (K:=K) rfl (pv 2) (cN (Ds uy ao)))))))),?_⟩
 ext;refine⟨fG _,fun r H1 f1 s1 e1=>?_⟩;obtain⟨y,y1,y2⟩:=qm ha hp;obtain⟨ea,v1,p2,v3,v4,rfl,g1,_,_,g4⟩:=mD y2;refine Ix.lst (s1 _ _ hl) (bw y1) ⟨ea,_,rfl,s1 _ _ g1,fun p3 H3 s3 e3=>?_⟩;rw[kj ⋯] at e3
 have e3:H3 p3=some (.tup [v3,v4]):=e3;refine⟨p3,_,rfl,cB.of e3,rfl,?_⟩;ext;have rl:r≠l:=fun z=>by rw[z,hl] at f1; cases f1
 have fuel:=uW hq;refine⟨fun m σ H'=>∃(i:Nat)(acc:List Int)(w3 w4:V),σ=[some (.ref l),some (.int p),some (.ref r),some w3,some w4]/\i<es.length/\m=i+(if(fC es i).fr=none then 0 else 1)/\FrV (fC es i).fr w3 w4/\eZ es es.length p=eZ es es.length i++acc.reverse/\acc.length+i<=es.length/\H' r=some (.lst (acc.map V.int))/\aF H H',⟨_,p,[],v3,v4,rfl,hp,rfl,g4,by simp,by simp; omega,s3 _ _ e1,s1.trans s3⟩,?_⟩
 rintro m σ H4 ⟨i,acc,w3,w4,rfl,hi,hm,hf,hpa,hal,e4,s4⟩;ext;refine⟨trivial,?_⟩;rcases hf with⟨z1,rfl,rfl⟩ | ⟨q',c,z1,rfl,rfl⟩
 ·rw[bD ⋯]
  have ep:eZ es es.length i=[]:=by
   obtain⟨f',hf'⟩:∃f',es.length=f'+1:=⟨es.length-1,∅⟩
   rw[hf'];unfold eZ;rw[z1]
  rw[ep,JQ] at hpa;unfold aaW;ext;refine⟨trivial,r,_,rfl,d7.of e4,fun p5 f5=>?_⟩;refine q p5 _ (aF.free s4 f5) (s4.trans (aM f5 _)) ?_;rw[aD,hpa,List.map_reverse]
 ·rw[aL (by simp)]
  have hlt:=hq i q' c hi z1;refine⟨_,fun σ' H' z=>z,.inl ⟨rfl,_,d7.of e4⟩,r,_,_,rfl,rfl,e4,by rw[bW]; exact bC ∅,?_⟩
  have s5:aF H (upd H4 r (.lst (acc.map V.int++[V.int c]))):=s4.kY (by exact f1)
  have e5:upd H4 r (.lst (acc.map V.int++[V.int c])) r=some (.lst ((acc++[c]).map V.int)):=by rw[aD,iZ]; rfl
  generalize upd H4 r (.lst (acc.map V.int++[V.int c]))=H5 at s5 e5;obtain⟨y',y1',y2'⟩:=qm ha (show q'<es.length by omega)
  obtain⟨ea',v1',p2',v3',v4',rfl,g1',_,_,g4'⟩:=mD y2';refine Ix.lst (s5 _ _ hl) (bw y1') ⟨ea',_,rfl,s5 _ _ g1',fun p6 H6 s6 e6=>?_⟩;rw[kj ⋯] at e6
  have e6:H6 p6=some (.tup [v3',v4']):=e6;refine⟨p6,_,rfl,cB.of e6,rfl,?_⟩;ext
  have ep:eZ es es.length i=eZ es es.length q'++[c]:=by
   obtain⟨f',hf'⟩:∃f',es.length=f'+1:=⟨es.length-1,∅⟩
   rw[fuel q' es.length f' ∅ ∅ ∅,hf']
   conv=>lhs; unfold eZ
   rw[z1]
  refine⟨_,?_,q',acc++[c],v3',v4',rfl,∅,rfl,g4',?_,by rw[c7]; simp; omega,s6 _ _ e5,s5.trans s6⟩
  ·have hm':m=i+1:=by rw[hm,z1]; rfl
   split <;> omega
  ·rw[hpa,ep,List.reverse_append,Ax]; rfl
variable{aH aJ:Addr}
theorem Jv.of{H:Hp}{l b:Addr}{xs zs:List V}{Q:VK}(h1:H l=some (.lst xs))(h2:H b=some (.lst zs))(hn:xs.length+zs.length<=sizeLine)(q:∀p H',H p=none->aF H H'->H' p=some (.lst (xs++zs))->Q (.ref p) H'):Jv (.ref l) (.ref b) H Q:=
 ⟨l,b,xs,zs,rfl,rfl,h1,h2,hn,fun p fp=>q p _ fp (aM fp _) aD⟩
theorem aai{xs ys:List V}(h:xs.length+ys.length<=1000):xs.length+ys.length<=sizeLine:=jK (bC h)
theorem Kc{es:List En}(hq:BP es):∀(f i:Nat),(eZ es f i).length<=f
 | 0,_=>dM _
 | f+1,i=>by
  unfold eZ;split
  ·exact fG _
  ·rw[c7];have:=Kc hq f;rename_i q c _;have:=this q;simp;omega
def bdV:Option Int->V
 | none=>.non
 | some b=>.int b
def abA(H H':Hp)(es:List En)(w:V)(v:V):Prop:=∃p l ys,v=.ref p/\H' p=some (.tup [.ref l,w])/\H l=none/\H' l=some (.lst ys)/\ak H' (es.map j9) ys
def Jf(CM CW:Addr):Sp:=fun vs H Q E=>∃(v u cv:V)(x:cP)(st:dW)(c:Cv)(bd:Option Int)(lim:Int),vs=[v,u,cv,bdV bd,.int lim]/\At H (gH x) v/\At H (nY st) u/\At H (Ii c) cv/\nQ x/\O7 x/\iY st/\Il c/\0<=lim/\lim<=900 /\
 (23<cY c (c.map (·.1))->∀H',aF H H'->E (.ref CW) none H') /\
 (cY c (c.map (·.1))<=23->∀n,pP x c st bd lim n->∀v' H',aF H H'->abA H H' (aR x c st n) .non v'->Q v' H') /\
 (cY c (c.map (·.1))<=23->∀p cc,pR x c st bd lim p cc->∀v' r H',aF H H'->H r=none->H' r=some (.lst ((eZ (cT x c st p cc) (cT x c st p cc).length p++[(cc:Int)]).map V.int))->abA H H' (cT x c st p cc) (.ref r) v'->Q v' H') /\
 (cY c (c.map (·.1))<=23->∀p cc,vy x c st bd lim p cc->∀H',aF H H'->E (.ref CM) none H')
theorem Ck:a_ ["post","stand","curve","bound","limit","entries","met","place","come","behind","spare","away"] ["post","stand","curve","bound","limit"] (aK xU):=(by walk_at "c")
theorem Sy(F:jc K "walked" "walked" xU f fd)(B:Bi mg)(O:Co K mg)(Z:ZL K mg aH aJ)(lR:Ct P w K mg base k "is_too_wide" ["curve"] VH)(lV:Ct P w K mg base k "first_entry" ["post","stand","curve"] Jj)(nF:Ct P w K mg base k "comes_next" ["curve","entry"] PB)
  (z_:Ct P w K mg base k "led_to" ["post","curve","entry","come"] Pj) (Ae:Ct P w K mg base k "breaks" ["bound","behind","away"] Jm) (nG:YW P w K mg base k "check_room" ["entries","limit"] (VR aH)) (vo:Ct P w K mg base k "load_to" ["entries","place"] Jh) :
  bZ P w K mg base (pQ P w) (k+1) f fd ["post","stand","curve","bound","limit"] (Jf aH aJ):=by
 refine F.okE Ck (by rintro vs H Q E ⟨v,u,cv,x,st,c,bd,lim,rfl,_⟩; rfl) (fun cdv A outer s H vs Q E UW hr h=>?_)
 obtain⟨v,u,cv,x,st,c,bd,lim,rfl,a1,a2,a3,hx,hn,hs,hv,hl1,hl2,qW,qD,qB,qM⟩:=h;have ND:=Ck.nd;refine⟨_,(aq (cX (fY (pf lR hr (aa (pv 2) aj))) (aG (J6 ⟨Z.HR,Z.M5⟩ UW (aa (abg (pZ cD (pZ (abh (My O.Er)) (pZ cD Wu)))) aj))) bM) (aq (aX (i:=5) (bR (aa (pf lV hr (aa (pv 0) (aa (pv 1) (aa (pv 2) aj)))) aj))) (aq (aX (i:=6) (Mz Ud (by rfl) B.set ac2)) (aq (eQ (Qv hr.units (pv 6) (aa (cz eX (bB aW (pv 5) ao (fun _ _=>rfl)) dC (cN ao)) aj))) (aq (aX (i:=7) ao) (aq (J5 PassesOwn.leaving (bj tK (pv 7) (pb (jk (K:=K) rfl) B.len rP (aa (pv 5) aj)) (bh _)) (aq (fZ PassesOwn.leaving rfl (iT (K:=K) rfl (pf nF hr (aa (pv 2) (aa (bB aW (pv 5) (pv 7) (fun _ _=>rfl)) aj)))) (aC (i:=8)) (aq (cJ (pf z_ hr (aa (pv 0) (aa (pv 2) (aa (bB aW (pv 5) (pv 7) (fun _ _=>rfl)) (aa (pv 8) aj))))) (bG (K:=K) (n:=3) rfl rfl (aA (aC (i:=9)) (aA (aC (i:=10)) (aA (aC (i:=11)) bF))))) (aq (cX (PW.pt (Gn (bj qd (pv 3) d9 (bh _)) (wN (fY (pf Ae hr (aa (pv 3) (aa (pv 9) (aa (pv 11) aj)))))))) (aG (aZ (aV (aa (pv 5) (aa (aO uX (pf vo hr (aa (pv 5) (aa (pv 7) aj))) (bR (aa (pv 8) aj))) aj))))) bM) (aG (cX (bj (Sw hr.units) (aV (aa (pv 9) (aa (pv 10) aj))) (pv 6) (by with_unfolding_all rfl)) (aq (eQ (pfe nG hr (aa (pv 5) (aa (pv 4) aj)))) (aq (eQ (Qv hr.units (pv 6) (aa (aV (aa (pv 9) (aa (pv 10) aj))) aj))) (aG (eQ (gJ (K:=K) rfl PySem.F.plainAttrs_list PySem.F.slot_list_append PySem.F.type_list_append dY (pv 5) (aa (aV (aa (pv 9) (aa (pv 10) (aa (pv 7) (aa (pv 8) aj))))) aj)))))) bM))))) (aG (yL (i:=7) ND rfl (by walk_at "o") ao Ny)))) (aG (aZ (aV (aa (pv 5) (aa d9 aj))))))))))),?_⟩
 simp only[Jo];ext;refine eV.of (fun σ' H'=>cY c (c.map (·.1))<=23/\aF H H'/\σ'=[some v,some u,some cv,some (bdV bd),some (.int lim),none,none,none,none,none,none,none]) ?_ ?_
 rotate_left 1
 ·intro N vd;ext;refine⟨cv,c,rfl,a3,hv.ne,(by have:=hv.n; omega),fun H1 s1=>⟨_,rfl,?_⟩⟩
  by_cases c1:cY c (c.map (·.1))>23
  ·rw[aL (ju c1)];have hd:=Yc (n:=23) (k:=4) ⋯ ⋯
   have l1:(Str.ofString "more than ").length=10:=rfl;have l2:(Str.ofString " units may come in a beat").length=25:=rfl
   have l0:Str.empty.length=0:=rfl
   have e3:(Str.empty++Str.ofString "more than " ++ tx (dg 23)++Str.ofString " units may come in a beat").length<=sizeLine:=by
    simp only[Str.length_append,uz,l0,l1,l2,sizeLine_eq]; omega
   refine⟨_,rfl,?_,_,X5 ⋯ ⋯,?_,_,rfl,?_,_,rfl,e3,e3,⋯,fun H' s'=>qW ∅ H' (s1.trans s')⟩
   ·simp only[Str.length_append,l0,l1,sizeLine_eq]; omega
   ·rw[uz,sizeLine_eq]; omega
   ·simp only[Str.length_append,uz,l0,l1,sizeLine_eq]; omega
  ·rw[bD (by simpa using c1)]
   exact vd _ _ ⟨∅,s1,rfl⟩
 rintro σ' H1 ⟨hW,s1,rfl⟩;ext;refine⟨v,u,cv,x,st,c,rfl,a1.mono s1,a2.mono s1,a3.mono s1,hn,hs,(by have:=hv.n; omega),fun pe v1 p2 H2 s2 b1 b2 b3=>⟨⋯,fun l H3 f3 s3 e3=>⟨trivial,fun m H4 f4 s4 n4 hφ=>⟨⟨m,[],rfl,n4⟩,?_⟩⟩⟩⟩
 clear hφ;have s34:=s3.trans s4;have V_:=s1.trans (s2.trans s34);refine Ix.lst (s4 _ _ e3) (v:=.ref pe) (bw (j:=0) rfl) ⟨pe,_,rfl,s34 _ _ b3,fun p5 H5 s5 e5=>?_⟩;rw[j_ ⋯] at e5
 have e5:H5 p5=some (.tup [v1,.ref p2]):=e5;have R1:=s34.trans s5;have k5:mJ H5 (Hb (fU x st) (c.map (·.1))) (.ref p5):=⟨zp _ _,At.tup e5 (ak.cons (b1.mono R1) (ak.cons (At.tup (R1 _ _ b2) (bI _)) ak.nil))⟩;refine⟨m,[],.ref p5,_,rfl,rfl,n4.same s5,⋯,k5,fun H6 p6=>?_⟩
 have fl:H l=none:=aF.free (s1.trans s2) f3;have fm:H m=none:=aF.free (s1.trans (s2.trans s3)) f4;have lm:l≠m:=fun z=>by rw[z] at e3; rw[e3] at f4; cases f4
 have s6:aF H H6:=iG.same p6 (V_.trans s5) fm;have e6:H6 l=some (.lst [.ref pe]):=iG.lst (n4.same s5) p6 _ _ (s5 _ _ (s4 _ _ e3))
 have a6:ak H6 ((aR x c st 0).map j9) [.ref pe]:=by
  refine ak.cons (iG.at (n4.same s5) p6 (KJ _) (At.tup (R1 _ _ b3) (ak.cons (b1.mono R1) (ak.cons (At.tup (R1 _ _ b2) (bI _)) (ak.cons At.non (ak.cons At.non ak.nil)))))) ak.nil
 have n6:jb H6 m ((aR x c st 0).map En.key):=p6.2;clear p6 n4 k5 e5 b1 b2 b3 e3;obtain⟨Wh,hWh⟩:∃Wh:Nat->St->Hp->Prop,∀mm σ H',Wh mm σ H'↔(∃(p:Nat)(ys:List V)(o8 o9 uv GF:Option V),σ=[some v,some u,some cv,some (bdV bd),some (.int lim),some (.ref l),some (.ref m),some (.int p),o8,o9,uv,GF]/\mm=2000-p/\p<=(aR x c st p).length/\((aR x c st p).length=1\/((aR x c st p).length:Int)<=lim)/\Ep x c st bd p 0/\H' l=some (.lst ys)/\ak H' ((aR x c st p).map j9) ys/\jb H' m ((aR x c st p).map En.key)/\aF H H'):=⟨_,fun _ _ _=>kO⟩;refine⟨Wh,⟨_,(hWh _ _ _).mpr ⟨0,_,_,_,_,_,rfl,rfl,fG _,.inl rfl,fun p' c' h=>by omega,e6,a6,n6,s6⟩⟩,?_⟩
 clear e6 a6 n6 s6;intro mm σ H7 hw7;obtain⟨p,ys,o8,o9,uv,GF,rfl,hmm,hp,hlen,hnb,e7,a7,n7,s7⟩:=(hWh _ _ _).mp hw7;ext;refine⟨l,ys,rfl,.inl (d7.of e7),?_⟩;have hyl:ys.length=(aR x c st p).length:=by rw[a7.length,bW]
 have hlim:(aR x c st p).length<=901:=by rcases hlen with z | z <;> omega
 refine⟨_,_,rfl,rfl,?_⟩;by_cases c1:(p:Int)<ys.length
 ·rw[aL (ju c1)];have hp':p<(aR x c st p).length:=by omega
  refine⟨_,fun σ' H' z=>z,?_⟩;rw[nW];ext;obtain⟨y,y1,y2⟩:=qm a7 hp';have hE:=wR hx hv hs p _ (qp hp').1;have hcm:=abx hE hW;refine Ix.lst e7 (bw y1) ⟨cv,y,c,_,rfl,a3.mono s7,y2,hv,hE,∅,fun lc H8 f8 s8 e8=>?_⟩
  have e8l:=s8 _ _ e7;have lcl:lc≠l:=fun z=>by rw[z,e7] at f8; cases f8
  have flc:H lc=none:=aF.free s7 f8;obtain⟨Pv,hPv⟩:∃Pv:Nat->St->Hp->Prop,∀i σ H',Pv i σ H'↔(∃(zs:List V)(o8 o9 uv GF:Option V),σ=[some v,some u,some cv,some (bdV bd),some (.int lim),some (.ref l),some (.ref m),some (.int p),o8,o9,uv,GF]/\((cT x c st p i).length=1\/((cT x c st p i).length:Int)<=lim)/\Ep x c st bd p i/\H' l=some (.lst zs)/\ak H' ((cT x c st p i).map j9) zs/\jb H' m ((cT x c st p i).map En.key)/\H' lc=some (.lst ((List.range (uw c (fC (aR x c st p) p))).map fun i:Nat=>V.int i))/\aF H H'):=⟨_,fun _ _ _=>kO⟩;refine LK.of e8 Pv ((hPv _ _ _).mpr ⟨_,_,_,_,_,rfl,hlen,hnb,e8l,a7.mono s8,n7.same s8,e8,s7.trans s8⟩) (fun i σ H' _ hh=>by obtain⟨_,_,_,_,_,_,_,_,_,_,_,z,_⟩:=(hPv _ _ _).mp hh; exact z) ?_ ?_
  ·intro i w σ H9 hw hw9;obtain⟨zs,o8,o9,uv,GF,rfl,hl9,hb9,e9,a9,n9,c9,s9⟩:=(hPv _ _ _).mp hw9
   have hi:i<uw c (fC (aR x c st p) p):=by
    have:=(gC.mp hw).1;simpa using this
   have ew:w=.int (i:Nat):=by
    rw[g_,List.getElem?_range hi] at hw;exact(Option.some.inj hw).symm
   subst ew;have hlz:zs.length=(cT x c st p i).length:=by rw[a9.length,bW]
   have pp:p<(cT x c st p i).length:=lF hp' tH;have aku:(cT x c st p i).length<=901:=by rcases hl9 with z | z <;> omega
   obtain⟨y',y1',y2'⟩:=qm a9 pp;rw[aaI hp'] at y2';ext;refine Ix.lst e9 (bw y1') ⟨v,cv,y',x,c,_,i,rfl,a1.mono s9,a3.mono s9,y2',hx,hn,hE,(by have:=hv.n; omega),fun pt v1 p2 Am uM b1 b2 b3=>⟨pt,_,rfl,cB.of b3,rfl,?_⟩⟩
   ext;have hi':=hi;generalize hee:fC (aR x c st p) p=e at hE hcm e8 c9 hi y2 y2' b1 b2 b3;have akm:=s9.trans uM;refine eV.of (fun σ' H'=>Uq x bd e i=false/\aF Am H'/\σ'=[some v,some u,some cv,some (bdV bd),some (.int lim),some (.ref l),some (.ref m),some (.int p),some (.int i),some v1,some (.ref p2),some (.int (Ld x e i))]) ?_ ?_
   rotate_left 1
   ·intro N vd;ext;refine⟨trivial,?_⟩;cases bd with
    | none=>
     rw[bD ⋯]
     exact vd _ _ ⟨rfl,aF.refl _,rfl⟩
    | some b=>
     rw[aL (by simp[bdV])]
     refine⟨b,v1,_,_,rfl,b1,fun wJ yh=>⟨_,rfl,?_⟩⟩;have eb:(decide ((Ur x e i).w>b) || decide (Ld x e i>0))=Uq x (some b) e i:=rfl;rw[eb];cases hbk:Uq x (some b) e i with
     | false=>
      rw[bD ⋯]
      exact vd _ _ ⟨hbk,yh,rfl⟩
     | true=>
      rw[aL rfl];have z11:=uM.trans yh;refine⟨l,zs,_,p,rfl,z11 _ _ e9,a9.mono z11,pp,∅,WM hp',fun r H12 f12 s12 Ra=>⟨⋯,fun p13 YD f13 pY U4=>?_⟩⟩
      have hpl:=Kc (WM (x:=x) (cv:=c) (st:=st) (c:=i) hp') (cT x c st p i).length p;refine Jv.of (pY _ _ Ra) U4 (aai (by rw[bW]; show _+1<=1000; omega)) fun p14 H14 f14 R3 U3=>⟨⋯,fun QB UG f15 CP Oh=>?_⟩
      have Vd:=z11.trans s12;have Vc:=Vd.trans pY;have z15:=Vc.trans (R3.trans CP);refine qB hW p i ⟨hp',hi',hb9,by rw[hee]; exact hbk,hl9⟩ _ p14 UG (s9.trans z15) (aF.free (s9.trans Vc) f14) ?_ ⟨QB,l,zs,rfl,Oh,fl,z15 _ _ e9,a9.mono z15⟩
      rw[iZ];exact CP _ _ U3
   rintro σ' wJ ⟨hbk,yh,rfl⟩;ext
   have hb':Ep x c st bd p (i+1):=fun p' c' h1 h2 h3=>by
    by_cases z:p'=p/\c'=i
    ·obtain⟨rfl,rfl⟩:=z;rw[hee]; exact hbk
    ·exact hb9 p' c' ∅ h2 h3
   refine⟨⋯,fun p12 H12 f12 s12 Ra=>?_⟩
   have Vd:=uM.trans (yh.trans s12);have z11:=yh.trans s12;have k12:mJ H12 (qu x c e p i).key (.ref p12):=⟨zp _ _,At.tup Ra (ak.cons (b1.mono z11) (ak.cons (At.tup (z11 _ _ b2) (bI _)) ak.nil))⟩;refine⟨m,_,_,rfl,n9.same Vd,k12,?_⟩;by_cases hk:(qu x c e p i).key∈(cT x c st p i).map En.key
   ·rw[ju hk,bD ⋯]
    have ep:cT x c st p (i+1)=cT x c st p i:=by rw[jY,hee,aL hk]
    refine(hPv _ _ _).mpr ?_;rw[ep];exact⟨zs,_,_,_,_,rfl,hl9,hb',Vd _ _ e9,a9.mono Vd,n9.same Vd,(by rw[hee]; exact Vd _ _ c9),s9.trans Vd⟩
   ·rw[jL hk,aL ⋯]
    have ep:cT x c st p (i+1)=cT x c st p i++[qu x c e p i]:=by rw[jY,hee,bD hk]
    refine⟨l,zs,lim,rfl,Vd _ _ e9,hl1,∅,fun hroom YD pY=>?_,fun hroom YD pY H14 R3=>?_⟩
    ·have Vc:=Vd.trans pY;have n13:=n9.same Vc;refine⟨⟨m,_,rfl,n13⟩,⋯,fun p14 H14 f14 R3 U3=>?_⟩
     have Vb:=Vc.trans R3;have Za:=z11.trans (pY.trans R3);have n14:=n9.same Vb;have k14:mJ H14 (qu x c e p i).key (.ref p14):=⟨zp _ _,At.tup U3 (ak.cons (b1.mono Za) (ak.cons (At.tup (Za _ _ b2) (bI _)) ak.nil))⟩;refine⟨m,_,_,_,rfl,rfl,n14,by rw[bW]; omega,k14,fun UG QB=>?_⟩
     have Oh:=iG.lst n14 QB _ _ (Vb _ _ e9);have c15:=iG.lst n14 QB _ _ (Vb _ _ c9);have a15:ak UG ((cT x c st p i).map j9) zs:=ak.tupS (iG.tup n14 QB) _ _ (qi _) (a9.mono Vb);have b15:At UG (nY (Ur x e i)) v1:=iG.at n14 QB (pX _) (b1.mono Za);have d15:=iG.tup n14 QB _ _ (Za _ _ b2);have CP:aF H UG:=iG.same QB (s9.trans Vb) fm;have n15:=QB.2;refine⟨.inl ⟨rfl,_,d7.of Oh⟩,⋯,fun p16 H16 f16 Al e16=>⟨l,zs,_,rfl,rfl,Al _ _ Oh,by rw[hlz]; exact bC ∅,?_⟩⟩
     have afg:=Al _ _ Oh
     have tk:∀b xs,H16 b=some (.tup xs)->upd H16 l (.lst (zs++[.ref p16])) b=some (.tup xs):=fun b xs hb=>by
      rw[aP (fun z=>by rw[z,afg] at hb; cases hb)]; exact hb
     refine(hPv _ _ _).mpr ⟨zs++[.ref p16],_,_,_,_,rfl,.inr ?_,hb',aD,?_,?_,?_,(CP.trans Al).kY fl⟩
     ·rw[ep,c7];show((_+1:Nat):Int)<=lim;omega
     ·rw[ep,iZ];refine ak.tupS tk _ _ (by rw[<- List.map_singleton,<- iZ]; exact qi _) ((a15.mono Al).append (ak.cons ?_ ak.nil))
      exact At.tup e16 (ak.cons (b15.mono Al) (ak.cons (At.tup (Al _ _ d15) (bI _)) (ak.cons (At.int _) (ak.cons (At.int _) ak.nil))))
     ·rw[ep,iZ];exact(n15.same Al).Zf afg
     ·rw[aP lcl,hee]; exact Al _ _ c15
    ·exact qM hW p i ⟨hp',hi',hb',by rw[hee]; exact hk,∅⟩ H14 (s9.trans (Vd.trans (R3 pY)))
  ·intro σ H9 hw9;obtain⟨zs,o8,o9,uv,GF,rfl,hl9,hb9,e9,a9,n9,c9,s9⟩:=(hPv _ _ _).mp hw9;rw[bW,Dk] at hl9 hb9 a9 n9;rw[<- tY hp'] at hl9 a9 n9;ext;refine⟨_,rfl,_,_,rfl,rfl,_,?_,(hWh _ _ _).mpr ⟨p+1,zs,_,_,_,_,rfl,rfl,?_,hl9,fun p' c' h1 h2 h3=>?_,e9,a9,n9,s9⟩⟩
   ·omega
   ·have:=zm (x:=x) (cv:=c) (st:=st) (show p<=p+1 by omega); omega
   ·by_cases z:p'=p
    ·subst z; exact hb9 _ c' (.inr ⟨rfl,h3⟩) h2 h3
    ·exact hb9 p' c' (.inl ∅) h2 h3
 ·rw[bD (by simpa using c1)]
  refine⟨⋯,fun p8 H8 f8 s8 e8=>?_⟩
  have ep:(aR x c st p).length=p:=by omega
  refine qD hW p ⟨ep,hnb,by rcases hlen with z | z <;> omega⟩ _ H8 (s7.trans s8) ⟨p8,l,ys,rfl,e8,fl,s8 _ _ e7,a7.mono s8⟩
variable{aH aJ:Addr}
theorem ZD.of{K:Frag}{H:Hp}{l:Addr}{xs:List V}{lo hi:Option Int}{Q:VK}(hl:H l=some (.lst xs))(q:∀p H',H p=none->aF H H'->H' p=some (.lst (nq xs lo hi))->Q (.ref p) H'):ZD K (.ref l) lo hi H Q:=
 ⟨l,xs,rfl,d7.of hl,fun p fp=>q p _ fp (aM fp _) aD⟩
theorem u_(is:List Int):PyData.hasDict (.list (is.map .int))=false/\PyData.canLay0 (.list (is.map .int))=true/\PyData.depth (.list (is.map .int))<=60:=by
 obtain⟨d1,d2,d3⟩:=DN is;exact⟨by simpa[PyData.hasDict] using d1,by simpa[PyData.canLay0] using d2,by show PyData.depthAll _+1<=60; rw[d3]; decide⟩
theorem wZ{ls:List Int}{i:Nat}{j:Int}(e:j=(i:Int))(h:i<ls.length):Ik (ls.map V.int) j=some (.int (ls.getD i 0)):=by
 rw[e];exact bw (by rw[g_,fD,gm h]; rfl)
theorem rn{ws:List Int}{i:Nat}{u v:List Int}(h:∀j,j<3->ws.getD j 0>(i:Int)->u.getD j 0=v.getD j 0):bQ ws i u=bQ ws i v:=by
 unfold bQ;refine List.map_congr_left fun j hj=>?_;have hj:=qU.mp hj;by_cases c:ws.getD j 0>(i:Int)
 ·rw[aL c,aL c,h j hj c]
 ·rw[bD c,bD c]
theorem m6(ws:List Int)(i:Nat)(u:List Int):bQ ws i (bQ ws i u)=bQ ws i u:=by
 refine rn fun j hj hg=>?_
 match j,hj,hg with
 | 0,_,hg=>show(if ws.getD 0 0>(i:Int) then u.getD 0 0 else 0)=_; rw[aL hg]
 | 1,_,hg=>show(if ws.getD 1 0>(i:Int) then u.getD 1 0 else 0)=_; rw[aL hg]
 | 2,_,hg=>show(if ws.getD 2 0>(i:Int) then u.getD 2 0 else 0)=_; rw[aL hg]
theorem Kw(ws:List Int)(us:List (List Int)):eE ws (eE ws us)=eE ws us:=by
 show[bQ ws 0 (bQ ws 0 _),bQ ws 1 (bQ ws 1 _),bQ ws 2 (bQ ws 2 _)]=[bQ ws 0 _,bQ ws 1 _,bQ ws 2 _];rw[m6,m6,m6]
theorem Dw(x:cP)(st:dW):fU x (fU x st)=fU x st:=by
 show dW.mk st.w st.r st.cs (if x.e-1<(if x.e-1<st.s then x.e-1 else st.s) then x.e-1 else(if x.e-1<st.s then x.e-1 else st.s)) st.t (eE (fH x) (eE (fH x) st.us))=_
 rw[Kw]
 have:(if x.e-1<(if x.e-1<st.s then x.e-1 else st.s) then x.e-1 else(if x.e-1<st.s then x.e-1 else st.s))=if x.e-1<st.s then x.e-1 else st.s:=by
  by_cases h:x.e-1<st.s
  ·rw[aL h,bD ∅]
  ·rw[bD h,bD h]
 rw[this];rfl
theorem ue{x:cP}{c:Cv}{st:dW}{n:Nat}(h:(aR x c st n).length=n)(q:Nat):(aR x c st q).length<=n:=by
 by_cases z:q<=n
 ·have:=zm (x:=x) (cv:=c) (st:=st) z; omega
 ·have:=QR h (q-n);rw[show n+(q-n)=q by omega] at this
  rw[this]; omega
theorem done_one{x:cP}{c:Cv}{st:dW}{n n':Nat}(h:(aR x c st n).length=n)(h':(aR x c st n').length=n'):n=n':=by
 have h1:=ue h n';have h2:=ue h' n;omega
theorem qb{x:cP}{c:Cv}{st:dW}(p i:Nat):∀d,∃r,cT x c st p (i+d)=cT x c st p i++r
 | 0=>⟨[],by simp⟩
 | d+1=>by
  obtain⟨r,hr⟩:=qb (x:=x) (c:=c) (st:=st) p i d;obtain⟨r',hr'⟩:=Rr (x:=x) (cv:=c) (e:=fC (aR x c st p) p) (p:=p) (es:=cT x c st p (i+d)) (c:=i+d);refine⟨r++r',?_⟩;show Ai x c (fC (aR x c st p) p) p (cT x c st p (i+d)) (i+d)=_;rw[hr',hr,Ax]
theorem WL{x:cP}{c:Cv}{st:dW}{p i:Nat}(hp:p<(aR x c st p).length)(hi:i<=uw c (fC (aR x c st p) p)):(cT x c st p i).length<=(aR x c st (p+1)).length:=by
 obtain⟨r,hr⟩:=qb (x:=x) (c:=c) (st:=st) p i (uw c (fC (aR x c st p) p)-i);rw[show i+(uw c (fC (aR x c st p) p)-i)=uw c (fC (aR x c st p) p) by omega] at hr
 rw[tY hp,hr,c7]; omega
theorem Kh{x:cP}{c:Cv}{st:dW}{bd bd':Option Int}{lim G8:Int}{n p i:Nat}(D:pP x c st bd lim n)(M:vy x c st bd' G8 p i)(h:lim<=G8\/n=1):False:=by
 have h1:(cT x c st p (i+1)).length=(cT x c st p i).length+1:=by rw[jY,bD M.hk,c7]; rfl
 have h2:=WL M.hp (show i+1<=_ from M.hc);have h3:=ue D.hn (p+1);have h4:=tH (x:=x) (cv:=c) (st:=st) (p:=p) (c:=i);have h5:=QM (x:=x) (cv:=c) (st:=st) p;have h6:=M.hl;have h7:=D.hl;omega
variable{aH aJ:Addr}
variable{aH aJ:Addr}
def xG(CM CW:Addr):Sp:=fun vs H Q E=>∃(v u cv:V)(x:cP)(st:dW)(c:Cv)(bd lim:Int),vs=[v,u,cv,.int bd,.int lim]/\At H (gH x) v/\At H (nY st) u/\At H (Ii c) cv/\nQ x/\O7 x/\iY st/\Il c/\0<=lim/\lim<=900 /\
 (23<cY c (c.map (·.1))->∀H',aF H H'->E (.ref CW) none H') /\
 (cY c (c.map (·.1))<=23->∀n,pP x c st (some bd) lim n->∀p l ys H',aF H H'->H l=none->H' p=some (.tup [.str "kept",.ref l])->H' l=some (.lst ys)->ak H' ((aR x c st n).map j9) ys->Q (.ref p) H') /\
 (cY c (c.map (·.1))<=23->∀p cc,pR x c st (some bd) lim p cc->∀q r H',aF H H'->H r=none->H' q=some (.tup [.str "broken",.ref r])->H' r=some (.lst ((eZ (cT x c st p cc) (cT x c st p cc).length p++[(cc:Int)]).map V.int))->Q (.ref q) H') /\
 (cY c (c.map (·.1))<=23->∀p cc,vy x c st (some bd) lim p cc->∀H',aF H H'->E (.ref CM) none H')
theorem Cm:a_ ["post","stand","curve","bound","limit","entries","load"] ["post","stand","curve","bound","limit"] (aK xV):=(by walk_at "c")
theorem SJ{T:Addr}{tk:Tok}(F:Aj K "opened" "opened" xV f fd T 300 tk)(O:Co K mg)(z8:YW P w K mg base k "walked" ["post","stand","curve","bound","limit"] (Jf aH aJ)) :
  bZ P w K mg base (pQ P w) (k+1) f fd ["post","stand","curve","bound","limit"] (xG aH aJ):=by
 refine F.okE Cm (by rintro vs H Q E ⟨v,u,cv,x,st,c,bd,lim,rfl,_⟩; rfl) (fun cdv A outer s H vs Q E UW hr h=>?_)
 obtain⟨v,u,cv,x,st,c,bd,lim,rfl,a1,a2,a3,hx,hn,hs,hv,hl1,hl2,qW,qD,qB,qM⟩:=h;have ND:=Cm.nd;refine⟨_,(aq (cJ (pfe z8 hr (aa (pv 0) (aa (pv 1) (aa (pv 2) (aa (pv 3) (aa (pv 4) aj)))))) (bG (K:=K) (n:=2) rfl rfl (aA (aC (i:=5)) (aA (aC (i:=6)) bF)))) (aG (aZ (cM (bj MF (pv 6) d9 (bh _)) (aV (aa (uV O.KEPT) (aa (pv 5) aj))) (aV (aa (uV O.BROKEN) (aa (pv 6) aj))))))),?_⟩
 ext;refine⟨v,u,cv,x,st,c,some bd,lim,rfl,a1,a2,a3,hx,hn,hs,hv,hl1,hl2,fun h H' s' H3 s3=>qW h H3 (s3 s'),fun h n D v' H' s' ⟨p,l,ys,e1,e2,e3,e4,e5⟩=>?_,fun h p cc Bk v' r H' s' f' e' ⟨p',l,ys,e1,e2,e3,e4,e5⟩=>?_,fun h p cc M H' s' H3 s3=>qM h p cc M H3 (s3 s')⟩
 ·subst e1;refine⟨p,_,rfl,cB.of e2,rfl,?_⟩;ext;refine⟨trivial,?_⟩;rw[aL (by simp)]
  refine⟨⋯,fun p2 H2 f2 s2 e6=>?_⟩
  exact qD h n D p2 l ys H2 (s'.trans s2) e3 e6 (s2 _ _ e4) (e5.mono s2)
 ·subst e1;refine⟨p',_,rfl,cB.of e2,rfl,?_⟩;ext;refine⟨trivial,?_⟩;rw[bD (by simp)]
  refine⟨⋯,fun p2 H2 f2 s2 e6=>?_⟩
  exact qB h p cc Bk p2 r H2 (s'.trans s2) f' e6 (s2 _ _ e')
theorem Hi{m:Nat}:∀{ls:List (List gZ)},(∀l∈ls,l.length<=m)->ls.flatten.length<=ls.length*m
 | [],_=>by simp
 | l::ls,h=>by
  have h1:=h l (by simp)
  have h2:=Hi (ls:=ls) fun l' hl'=>h l' (by simp[hl'])
  rw[List.flatten_cons,c7,jU,Nat.succ_mul];omega
theorem yK{x:cP}(h:Eo x):O7 x:=⟨by
 have h1:=Hi (m:=4) (ls:=x.cQ) fun l hl=>(h.r l hl).hi;have h2:=h.n;have h3:x.cQ.length*4<=3*4:=Nat.mul_le_mul_right 4 h2
 omega,fun r hr=>by
 obtain⟨l,hl,hr'⟩:=List.mem_flatten.mp hr
 exact((h.r l hl).g r hr').is⟩
end
theorem zL:∀(cs:List Int)(g:Int),(bx cs g).1.sum=cs.sum-g+(bx cs g).2
 | [],g=>by simp[bx]; omega
 | c::cs,g=>by
  have:=zL cs g;rw[bx,List.sum_cons,List.sum_cons,this];simp only;generalize (if(bx cs g).2<c then(bx cs g).2 else c)=z
  omega
theorem DY:∀(cs:List Int)(g:Int),(∀c∈cs,0<=c)->0<=g->(∀c∈(bx cs g).1,0<=c)/\0<=(bx cs g).2/\((bx cs g).2=0\/(bx cs g).1.sum=0)
 | [],g,_,hg=>⟨by simp[bx],by simpa[bx] using hg,.inr (by simp[bx])⟩
 | c::cs,g,h,hg=>by
  obtain⟨h1,h2,h3⟩:=DY cs g (fun y hy=>h y (iR _ hy)) hg;have hc:=h c jw;rw[bx];simp only;generalize hG:(bx cs g).2=G at *;refine⟨fun y hy=>?_,?_,?_⟩
  ·rcases bT.mp hy with z | z
   ·rw[z]; split <;> omega
   ·exact h1 y z
  ·split <;> omega
  ·rw[List.sum_cons];split <;> omega
structure Wth(x:cP)(st n:dW)(ch:Int):Prop where
 w:n.w=st.w
 s:n.s=st.s
 u:n.us=st.us
 r:0<=n.r
 c:n.cs.length=5
 cn:∀y∈n.cs,0<=y
 sm:n.r+n.cs.sum=st.r+st.cs.sum+ch
 t:n.t=if ch=0 then st.t else if 0<ch then x.u else x.d
theorem xq{x:cP}{st:dW}{ch:Int}(ha:x.a<=4)(hr:0<=st.r)(hl:st.cs.length=5)(hc:∀y∈st.cs,0<=y)(hz:0<=st.r+st.cs.sum+ch):Wth x st (dD x st ch) ch:=by
 by_cases c1:ch=0
 ·subst c1;have e:dD x st 0=st:=rfl;rw[e];exact⟨rfl,rfl,rfl,hr,hl,hc,∅,rfl⟩
 ·by_cases c2:0<ch
  ·have e:dD x st ch={ st with cs:=st.cs.take x.a++[st.cs.getD x.a 0+ch]++st.cs.drop (x.a+1),t:=x.u }:=by unfold dD; rw[bD c1,aL c2]
   rw[e];refine⟨rfl,rfl,rfl,hr,?_,?_,?_,?_⟩
   ·simp only[c7,jV,yz,jU,JN];omega
   ·intro y hy;rcases lE.mp hy with z | z
    ·rcases lE.mp z with z | z
     ·exact hc y (Qi z)
     ·rw[fP.mp z];have hlt:x.a<st.cs.length:=by omega
      have:0<=st.cs.getD x.a 0:=by
       rw[fD,gm hlt];exact hc _ (Gh hlt)
      omega
    ·exact hc y (List.mem_of_mem_drop z)
   ·show st.r+(st.cs.take x.a++[st.cs.getD x.a 0+ch]++st.cs.drop (x.a+1)).sum=_;obtain⟨y0,y1,y2,y3,y4,ey⟩:=aah hl;rw[ey];have:x.a=0\/x.a=1\/x.a=2\/x.a=3\/x.a=4:=by omega
    rcases this with e | e | e | e | e <;> rw[e] <;> simp <;> omega
   ·show x.u=_;rw[bD c1,aL c2]
  ·have e:dD x st ch={ st with r:=st.r-(bx st.cs (-ch)).2,cs:=(bx st.cs (-ch)).1,t:=x.d }:=by unfold dD; rw[bD c1,bD c2]
   rw[e];obtain⟨k1,k2,k3⟩:=DY st.cs (-ch) hc ∅
   have k4:=zL st.cs (-ch);have k5:=Fy _ k1;refine⟨rfl,rfl,rfl,?_,?_,k1,?_,?_⟩
   ·show 0<=st.r-(bx st.cs (-ch)).2;omega
   ·show(bx st.cs (-ch)).1.length=5;rw[m9]; exact hl
   ·show st.r-(bx st.cs (-ch)).2+(bx st.cs (-ch)).1.sum=_;omega
   ·show x.d=_;rw[bD c1,bD c2]
theorem jA{st:dW}(h:st.cs.length=5):cR st+(st.cs.drop 1++[0]).sum=st.r+st.cs.sum:=by
 obtain⟨a,b,c,d,e,hc⟩:=aah h;unfold cR;rw[hc];simp;omega
theorem yp{st:dW}(h:st.cs.length=5)(hr:0<=st.r)(hc:∀y∈st.cs,0<=y):0<=cR st:=by
 obtain⟨a,b,c,d,e,ec⟩:=aah h;have:=hc a (by rw[ec]; exact jw)
 unfold cR; rw[ec]; show 0<=st.r+a; omega
theorem Kp{st:dW}(hc:∀y∈st.cs,0<=y):∀y∈st.cs.drop 1++[0],0<=y:=fun y hy=>by
 rcases lE.mp hy with z | z
 ·exact hc y (List.mem_of_mem_drop z)
 ·rw[fP.mp z]; exact sZ 0
theorem vQ:∀cs:List Int,(∀c∈cs,0<=c)->bx cs 0=(cs,0)
 | [],_=>rfl
 | c::cs,h=>by
  have hc:=h c jw;rw[bx,vQ cs fun y hy=>h y (iR _ hy)];simp only;have e:(if 0<c then(0:Int) else c)=0:=by split <;> omega
  rw[e,JD,JD]
theorem DQ:∀(cs:List Int)(n:Int),
  (∀j:Nat,j<cs.length->0<(bx cs n).1.getD j 0->(∀k:Nat,j<k->k<cs.length->¬0<(bx cs n).1.getD k 0)->bx cs (n+1)=((bx cs n).1.set j ((bx cs n).1.getD j 0-1),(bx cs n).2)) /\
  ((∀k:Nat,k<cs.length->¬0<(bx cs n).1.getD k 0)->bx cs (n+1)=((bx cs n).1,(bx cs n).2+1))
 | [],n=>⟨fun j hj=>by simp at hj,fun _=>rfl⟩
 | c::cs,n=>by
  obtain⟨iA,iB⟩:=DQ cs n;rw[bx,bx];generalize hd:(bx cs n).1=ds at *;generalize hm:(bx cs n).2=m at *;simp only;refine⟨fun j hj hp hq=>?_,fun hq=>?_⟩
  ·cases j with
   | zero=>
    have hB:=iB fun k hk=>by
     have:=hq (k+1) ∅ (by rw[jU]; omega)
     simpa using this
    have hp':0<c-(if m<c then m else c):=by simpa using hp
    rw[hB];simp only[List.getD_cons_zero,List.set_cons_zero];split at hp'
    ·rename_i z;rw[aL z];by_cases z2:m+1<c
     ·rw[aL z2];refine Prod.ext ?_ ?_
      ·simp only; congr 1; omega
      ·simp only; omega
     ·rw[bD z2];refine Prod.ext ?_ ?_
      ·simp only; congr 1; omega
      ·simp only; omega
    ·omega
   | succ j=>
    have hA:=iA j (by rw[jU] at hj; omega) (by simpa using hp) fun k h1 h2=>by
     have:=hq (k+1) ∅ (by rw[jU]; omega)
     simpa using this
    rw[hA];simp
  ·have hB:=iB fun k hk=>by
    have:=hq (k+1) (by rw[jU]; omega)
    simpa using this
   have h0:=hq 0 (by rw[jU]; omega)
   have h0':¬0<c-(if m<c then m else c):=by simpa using h0
   rw[hB];simp only;split at h0'
   ·omega
   ·rename_i z;rw[bD z,bD ∅]
    refine Prod.ext rfl ?_;simp only; omega
theorem QS(kp:Nat->Bool)(f:Nat->V):∀n:Nat,(((List.range n).filter kp).map f=[]/\∀k,k<n->kp k=false) \/
  ∃(j:Nat)(ini:List V),j<n/\kp j=true/\(∀k,j<k->k<n->kp k=false)/\((List.range n).filter kp).map f=ini++[f j]
 | 0=>.inl ⟨rfl,fun k h=>by omega⟩
 | n+1=>by
  have hs:=D_ kp f n;cases e:kp n with
  | true=>
   rw[e,aL rfl] at hs;exact .inr ⟨n,_,∅,e,fun k h1 h2=>by omega,hs⟩
  | false=>
   rw[e,bD ⋯,oY] at hs
   rcases QS kp f n with⟨h1,h2⟩ | ⟨j,ini,h1,h2,h3,h4⟩
   ·refine .inl ⟨by rw[hs]; exact h1,fun k hk=>?_⟩
    by_cases z:k=n
    ·rw[z]; exact e
    ·exact h2 k ∅
   ·refine .inr ⟨j,ini,∅,h2,fun k k1 k2=>?_,by rw[hs]; exact h4⟩
    by_cases z:k=n
    ·rw[z]; exact e
    ·exact h3 k k1 ∅
theorem ab2{l:List Int}{a:Nat}{v:Int}(h:a<l.length):l.set a v=l.take a++[v]++l.drop (a+1):=by
 rw[List.set_eq_take_append_cons_drop,aL h,Ax]; rfl
section
variable{P:Program}{w:World}{K:Frag}{mg:Str->Option Value}{base:Heap}{f:Addr}{fd:FuncData}{k:Nat}
structure O6(st:dW):Prop where
 is:iY st
 r:0<=st.r
 cn:∀y∈st.cs,0<=y
 sm:st.r+st.cs.sum<=12
 t:0<=st.t
theorem O6.next{x:cP}{st:dW}{c:Int}(hx:Eo x)(hs:O6 st):O6 (iw x st c):=by
 have hc5:=hs.is.c;have h0:=Fy _ hs.cn;have h1:=hs.r;have h2:=hs.sm;have hlo:=hx.lo;have hhi:=hx.hi
 have hwb:0<=iK x.cQ x.lo x.hi (st.r+st.cs.sum) (cO x st c)/\iK x.cQ x.lo x.hi (st.r+st.cs.sum) (cO x st c)<=12:=by
  unfold iK;simp only
  repeat' split <;> try omega
 have hbd:0<=st.r+st.cs.sum+mK x st c 12/\st.r+st.cs.sum+mK x st c 12<=12:=by
  unfold mK;rw[jA hc5];split
  ·unfold uf;split <;> omega
  ·omega
 have hml:(st.cs.drop 1++[0]).length=5:=by simp[hc5]
 have hW:=xq (x:=x) (st:=dR x st c) (ch:=mK x st c 12) hx.a (yp hc5 hs.r hs.cn) hml (Kp hs.cn) (by show 0<=cR st+(st.cs.drop 1++[0]).sum+mK x st c 12; rw[jA hc5]; exact hbd.1)
 refine⟨tM hx.is hs.is,hW.r,hW.cn,?_,?_⟩
 ·show(dD x (dR x st c) (mK x st c 12)).r+_<=12;have:=hW.sm;have e:(dR x st c).r+(dR x st c).cs.sum=st.r+st.cs.sum:=jA hc5;rw[e] at this;show(dD x (dR x st c) (mK x st c 12)).r+(dD x (dR x st c) (mK x st c 12)).cs.sum<=12;omega
 ·show 0<=(dD x (dR x st c) (mK x st c 12)).t;rw[hW.t];have:=hx.u;have:=hx.d;have:=hs.t;show 0<=(if mK x st c 12=0 then(if 0>st.t-1 then 0 else st.t-1) else if 0<mK x st c 12 then x.u else x.d)
  repeat' split <;> try omega
theorem QQ{x:cP}{cv:Cv}{st:dW}{Pr:En->Prop}(h0:Pr ⟨fU x st,cv.map (·.1),none⟩)(hs:∀e q (c:Nat),Pr e->Pr (qu x cv e q c)):∀p,∀y∈aR x cv st p,Pr y
 | 0=>fun y hy=>by rw[fP.mp hy]; exact h0
 | p+1=>by
  have ih:=QQ (cv:=cv) (st:=st) h0 hs p;rw[iy];split
  ·rename_i h;have he:=ih _ (qp h).1
   have all:∀c,∀y∈Q6 x cv (fC (aR x cv st p) p) p (aR x cv st p) c,Pr y:=fun c=>by
    induction c with
    | zero=>exact ih
    | succ c hc=>
     intro y hy;have e:Q6 x cv (fC (aR x cv st p) p) p (aR x cv st p) (c+1)=Ai x cv (fC (aR x cv st p) p) p (Q6 x cv (fC (aR x cv st p) p) p (aR x cv st p) c) c:=rfl;rw[e] at hy;unfold Ai at hy;split at hy
     ·exact hc y hy
     ·rcases lE.mp hy with z | z
      ·exact hc y z
      ·rw[fP.mp z]; exact hs _ _ _ he
   exact all _
  ·exact ih
theorem O6.lean{x:cP}{st:dW}(h:O6 st):O6 (fU x st):=⟨tW h.is,h.r,h.cn,h.sm,h.t⟩
theorem acv{x:cP}{st:dW}{c:Int}{b:Int}(hx:Eo x)(hs:O6 st)(h1:st.w<=b)(h2:x.m<=b)(h3:0<=b):(iw x st c).w<=b:=by
 have hc5:=hs.is.c;have hml:(st.cs.drop 1++[0]).length=5:=by simp[hc5]
 have hr:=yp hc5 hs.r hs.cn
 have e:(iw x st c).w=st.w+bU x st c-fK x st c:=by
  show(dD x (dR x st c) (mK x st c 12)).w=_;unfold dD
  repeat' split
  all_goals rfl
 have hp:=hx.p;have hm:0<=cR st*x.p:=Int.mul_nonneg hr ∅
 rw[e];unfold fK
 have ht:st.w+bU x st c<=b:=by
  unfold bU
  repeat' split
  all_goals omega
 split <;> omega
theorem aeZ{x:cP}{cv:Cv}{st:dW}{b:Int}(hx:Eo x)(hs:O6 st)(h1:st.w<=b)(h2:x.m<=b)(h3:0<=b)(p:Nat):∀y∈aR x cv st p,O6 y.st/\y.st.w<=b:=
 QQ (Pr:=fun e=>O6 e.st/\e.st.w<=b) ⟨hs.lean,h1⟩ (fun e q c ⟨k1,k2⟩=>⟨(k1.next hx).lean,acv hx k1 k2 h2 h3⟩) p
section
variable{x:cP}{c:Cv}{st st':dW}{bd:Option Int}{lim:Int}
theorem Yb{n p cc:Nat}{G8:Int}(D:pP x c st bd lim n)(Bk:pR x c st bd G8 p cc):False:=by
 have h1:=ue D.hn p;have h2:=D.hb p cc (.inl (by have:=Bk.hp; omega)) Bk.hp Bk.hc
 rw[Bk.hk] at h2;cases h2
theorem aaH{p cc p' Ij:Nat}{G8:Int}(b1:pR x c st bd lim p cc)(b2:pR x c st bd G8 p' Ij):p=p'/\cc=Ij:=by
 by_cases h1:p<p'\/p=p'/\cc<Ij
 ·have:=b2.hb p cc h1 b1.hp b1.hc; rw[b1.hk] at this; cases this
 ·by_cases h2:p'<p\/p'=p/\Ij<cc
  ·have:=b1.hb p' Ij h2 b2.hp b2.hc; rw[b2.hk] at this; cases this
  ·omega
theorem WK{p i i':Nat}(h:i<=i'):(cT x c st p i).length<=(cT x c st p i').length:=by
 obtain⟨r,hr⟩:=qb (x:=x) (c:=c) (st:=st) p i (i'-i);rw[show i+(i'-i)=i' by omega] at hr
 rw[hr,c7]; omega
theorem Yt{p cc p' Ij:Nat}{G8:Int}(b1:pR x c st bd lim p cc)(M:vy x c st bd G8 p' Ij)(hl:lim<=G8):False:=by
 by_cases h1:p<p'\/p=p'/\cc<Ij+1
 ·have:=M.hb p cc h1 b1.hp b1.hc; rw[b1.hk] at this; cases this
 ·have g1:(cT x c st p' (Ij+1)).length=(cT x c st p' Ij).length+1:=by rw[jY,bD M.hk,c7]; rfl
  have g2:=b1.hl;have g3:=M.hl;have g4:1<=(cT x c st p' Ij).length:=by have:=tH (x:=x) (cv:=c) (st:=st) (p:=p') (c:=Ij); have:=QM (x:=x) (cv:=c) (st:=st) p'; omega
  have g5:(cT x c st p' (Ij+1)).length<=(cT x c st p cc).length:=by
   by_cases z:p'=p
   ·subst z; exact WK ∅
   ·have k1:=WL M.hp (show Ij+1<=_ from M.hc);have k2:=zm (x:=x) (cv:=c) (st:=st) (show p'+1<=p by omega)
    have k3:=tH (x:=x) (cv:=c) (st:=st) (p:=p) (c:=cc);omega
  omega
def Xw(ns:List Int):PyData:=.list (ns.map .int)
noncomputable def nH(x:cP)(c:Cv)(st:dW)(p cc:Nat):List Int:=eZ (cT x c st p cc) (cT x c st p cc).length p++[(cc:Int)]
end
theorem Tu{ws:List Int}{us vs:List (List Int)}(h:∀i,i<3->bQ ws i (us.getD i [])=bQ ws i (vs.getD i [])):eE ws us=eE ws vs:=by
 unfold eE;refine List.map_congr_left fun i hi=>?_;rw[qU] at hi;exact h i hi
theorem zj{ws:List Int}{us vs:List (List Int)}(h:eE ws us=eE ws vs){i j:Nat}(hi:i<3)(hj:j<3)(hg:ws.getD j 0>(i:Int)):(us.getD i []).getD j 0=(vs.getD i []).getD j 0:=by
 have h1:bQ ws i (us.getD i [])=bQ ws i (vs.getD i []):=by
  have:=jF (fun l=>l.getD i []) h
  match i,hi,this with
  | 0,_,z=>exact z
  | 1,_,z=>exact z
  | 2,_,z=>exact z
 have h2:(if ws.getD j 0>(i:Int) then(us.getD i []).getD j 0 else 0)=(if ws.getD j 0>(i:Int) then(vs.getD i []).getD j 0 else 0):=by
  have:=jF (fun l=>l.getD j 0) h1
  match j,hj,this with
  | 0,_,z=>exact z
  | 1,_,z=>exact z
  | 2,_,z=>exact z
 rw[aL hg,aL hg] at h2;exact h2
theorem W2{x:cP}{w:Str}(hw:w∈(["come","done","wait"]:List Str)):(fH x).getD (d8 w) 0=gb x.cQ.flatten w:=by
 simp only[bT,jW,or_false] at hw;rcases hw with rfl | rfl | rfl <;> rfl
theorem RL{x:cP}{us vs:List (List Int)}{hd:List Int}{r:gZ}(hr:r∈x.cQ.flatten)(hR:qJ r)(lu:us.length=3)(lv:vs.length=3)(h:eE (fH x) us=eE (fH x) vs):lX r.w r.s (hd::us)=lX r.w r.s (hd::vs):=by
 have hs:=hR.s
 have hn:(fH x).getD (d8 r.w) 0≥(r.s:Int)-1:=by
  rw[W2 hR.w];exact(pN x.cQ.flatten r.w).le r hr rfl
 have hx3:=ux r.w;have g:∀i,i<3->i+1<r.s->(us.getD i []).getD (d8 r.w) 0=(vs.getD i []).getD (d8 r.w) 0:=fun i hi hl=>zj h hi hx3 ∅
 obtain⟨u0,u1,u2,rfl⟩:=Xg lu;obtain⟨v0,v1,v2,rfl⟩:=Xg lv;unfold lX;generalize d8 r.w=ix at *;have:r.s=1\/r.s=2\/r.s=3\/r.s=4:=by omega
 rcases this with e | e | e | e
 ·rw[e]; rfl
 ·have g0:u0.getD ix 0=v0.getD ix 0:=g 0 ∅ ∅
  rw[e];show[hd.getD ix 0,u0.getD ix 0].sum=[hd.getD ix 0,v0.getD ix 0].sum;rw[g0]
 ·have g0:u0.getD ix 0=v0.getD ix 0:=g 0 ∅ ∅
  have g1:u1.getD ix 0=v1.getD ix 0:=g 1 ∅ ∅
  rw[e];show[hd.getD ix 0,u0.getD ix 0,u1.getD ix 0].sum=[hd.getD ix 0,v0.getD ix 0,v1.getD ix 0].sum;rw[g0,g1]
 ·have g0:u0.getD ix 0=v0.getD ix 0:=g 0 ∅ ∅
  have g1:u1.getD ix 0=v1.getD ix 0:=g 1 ∅ ∅
  have g2:u2.getD ix 0=v2.getD ix 0:=g 2 ∅ ∅
  rw[e];show[hd.getD ix 0,u0.getD ix 0,u1.getD ix 0,u2.getD ix 0].sum=[hd.getD ix 0,v0.getD ix 0,v1.getD ix 0,v2.getD ix 0].sum;rw[g0,g1,g2]
theorem vJ{h:Int}{t t':List (List Int)}:∀{rs:List gZ},(∀r∈rs,lX r.w r.s t=lX r.w r.s t')->fu h t rs=fu h t' rs
 | [],_=>rfl
 | r::rs,hh=>by
  have ih:=vJ (h:=h) (rs:=rs) fun z hz=>hh z (iR _ hz)
  have e:says r h t=says r h t':=by
   unfold says;rw[hh r jw]
  show(match says r h t with | some i=>i | none=>fu h t rs)=(match says r h t' with | some i=>i | none=>fu h t' rs)
  rw[e,ih]
theorem Lx{x:cP}{h:Int}{us vs:List (List Int)}{hd:List Int}(hN:O7 x)(lu:us.length=3)(lv:vs.length=3)(hl:eE (fH x) us=eE (fH x) vs):iK x.cQ x.lo x.hi h (hd::us)=iK x.cQ x.lo x.hi h (hd::vs):=by
 have e:x.cQ.map (fu h (hd::us))=x.cQ.map (fu h (hd::vs)):=List.map_congr_left fun rs hrs=>vJ fun r hr=>
  have hm:r∈x.cQ.flatten:=List.mem_flatten.mpr ⟨rs,hrs,hr⟩
  RL hm (hN.r r hm) lu lv hl
 unfold iK;rw[e]
theorem Tt{x:cP}{w r s t:Int}{cs:List Int}{us vs:List (List Int)}(h:eE (fH x) us=eE (fH x) vs)(ch:Int):fU x (dD x ⟨w,r,cs,s,t,us⟩ ch)=fU x (dD x ⟨w,r,cs,s,t,vs⟩ ch):=by
 unfold dD;by_cases c1:ch=0
 ·rw[aL c1,aL c1];show dW.mk _ _ _ _ _ _=dW.mk _ _ _ _ _ _;rw[h]
 ·rw[bD c1,bD c1];by_cases c2:0<ch
  ·rw[aL c2,aL c2];show dW.mk _ _ _ _ _ _=dW.mk _ _ _ _ _ _;rw[h]
  ·rw[bD c2,bD c2];show dW.mk _ _ _ _ _ _=dW.mk _ _ _ _ _ _;rw[h]
theorem Ym{x:cP}{A B:dW}{c fr:Int}(k1:∀hh,iK x.cQ x.lo x.hi hh (cO x A c)=iK x.cQ x.lo x.hi hh (cO x B c))(k2:il x.e A.s A.t=il x.e B.s B.t)(k3:cR A=cR B)(k4:A.cs=B.cs):mK x A c fr=mK x B c fr:=by
 unfold mK uf;rw[k2,k3,k4,k1]
theorem KH{x:cP}{a b:dW}(hN:O7 x)(ha:iY a)(hb:iY b)(h:fU x a=fU x b)(c fr:Int) :
  bU x a c=bU x b c/\fK x a c=fK x b c/\mK x a c fr=mK x b c fr/\fU x (dD x (dR x a c) (mK x a c fr))=fU x (dD x (dR x b c) (mK x b c fr)):=by
 obtain⟨w,r,cs,s,t,us⟩:=a;obtain⟨w',r',cs',s',t',us'⟩:=b;have e1:w=w':=jF dW.w h;have e2:r=r':=jF dW.r h;have e3:cs=cs':=jF dW.cs h;have e4:(if x.e-1<s then x.e-1 else s)=(if x.e-1<s' then x.e-1 else s'):=jF dW.s h
 have e5:t=t':=jF dW.t h;have e6:eE (fH x) us=eE (fH x) us':=jF dW.us h;subst e1 e2 e3 e5;have f1:bU x ⟨w,r,cs,s,t,us⟩ c=bU x ⟨w,r,cs,s',t,us'⟩ c:=rfl;have f2:fK x ⟨w,r,cs,s,t,us⟩ c=fK x ⟨w,r,cs,s',t,us'⟩ c:=rfl;have f3:mO x.e s=mO x.e s':=by unfold mO; split at e4 <;> split at e4 <;> split <;> split <;> omega
 have f4:il x.e s t=il x.e s' t:=by
  unfold il;have:(s+1<x.e)↔(s'+1<x.e):=by split at e4 <;> split at e4 <;> omega
  by_cases z:s+1<x.e
  ·rw[aL z,aL (this.mp z)]
  ·rw[bD z,bD (fun y=>z (this.mpr y))]
 have f5:mK x ⟨w,r,cs,s,t,us⟩ c fr=mK x ⟨w,r,cs,s',t,us'⟩ c fr:=by
  refine Ym (fun hh=>?_) f4 rfl rfl;unfold cO;rw[f1,f2];exact Lx hN ha.u hb.u e6
 refine⟨f1,f2,f5,?_⟩;rw[f5];generalize mK x ⟨w,r,cs,s',t,us'⟩ c fr=ch;obtain⟨u0,u1,u2,rfl⟩:=Xg ha.u;obtain⟨v0,v1,v2,rfl⟩:=Xg hb.u;simp only[dR,cR,cO,f1,f2,f3,List.take_succ_cons,List.take_zero];refine Tt (Tu fun i hi=>?_) ch
 match i,hi with
 | 0,_=>rfl
 | 1,_=>
  refine rn fun j hj hg=>?_;exact zj e6 (i:=0) ∅ hj (by have:((1:Nat):Int)=1:=rfl; omega)
 | 2,_=>
  refine rn fun j hj hg=>?_;exact zj e6 (i:=1) ∅ hj (by have:((2:Nat):Int)=2:=rfl; omega)
section
variable{x:cP}{c:Cv}{st:dW}
theorem Xh(p:Nat):(fC (aR x c st p) 0).fr=none:=by
 obtain⟨r,hr⟩:=jN (x:=x) (cv:=c) (st:=st) 0 p;rw[Aw] at hr;rw[hr,jo (by simp[aR])]
 rfl
theorem Ka{es r:List En}(hq:BP es):∀f p,p<es.length->eZ (es++r) f p=eZ es f p
 | 0,_,_=>rfl
 | f+1,p,hp=>by
  unfold eZ;rw[jo hp];cases e:(fC es p).fr with
  | none=>rfl
  | some qc=>
   obtain⟨q,cc⟩:=qc;show eZ (es++r) f q++[cc]=eZ es f q++[cc];rw[Ka hq f q (by have:=hq p q cc hp e; omega)]
end
section
variable{x:cP}{c:Cv}{st:dW}
theorem Ss{n fuel:Nat}:eZ (aR x c st n) fuel 0=[]:=by
 cases fuel with
 | zero=>rfl
 | succ f=>unfold eZ; rw[Xh]
end
section
variable{x:cP}{c:Cv}{st:dW}
theorem Qz(p:Nat):∀k cc,cc<k->(qu x c (fC (aR x c st p) p) p cc).key∈(cT x c st p k).map En.key
 | 0,cc,h=>by omega
 | k+1,cc,h=>by
  rw[jY];by_cases e:cc=k
  ·subst e;split
   ·assumption
   ·rw[iZ]; exact i_ _ (by simp)
  ·have ih:=Qz p k cc ∅
   split
   ·exact ih
   ·rw[iZ]; exact Mt _ ih
theorem Xj{n p:Nat}(hn:(aR x c st n).length=n)(hp:p<n):p<(aR x c st p).length/\fC (aR x c st n) p=fC (aR x c st p) p:=by
 have h1:p<(aR x c st p).length:=by
  by_cases z:p<(aR x c st p).length
  ·exact z
  ·have e1:∀d,aR x c st (p+d)=aR x c st p:=fun d=>by
    induction d with
    | zero=>rfl
    | succ d ih=>rw[<- vM,iy,ih,bD ∅]
   have:=e1 (n-p);rw[show p+(n-p)=n by omega] at this
   rw[this] at hn;omega
 refine⟨h1,?_⟩;obtain⟨r,hr⟩:=jN (x:=x) (cv:=c) (st:=st) p (n-p);rw[show p+(n-p)=n by omega] at hr
 rw[hr,jo h1]
theorem Oi{n p cc q:Nat}(hn:(aR x c st n).length=n)(hp:p<n)(hc:cc<uw c (fC (aR x c st n) p)):(qu x c (fC (aR x c st n) p) q cc).key∈(aR x c st n).map En.key:=by
 obtain⟨h1,h2⟩:=Xj hn hp;rw[h2] at hc ⊢;have h3:=Qz (x:=x) (c:=c) (st:=st) p _ cc hc;rw[<- tY h1] at h3;obtain⟨r,hr⟩:=jN (x:=x) (cv:=c) (st:=st) (p+1) (n-(p+1));rw[show p+1+(n-(p+1))=n by omega] at hr
 rw[hr,iZ];exact Mt _ h3
theorem Qy(p:Nat):∀k i,i<(cT x c st p k).length->i<(aR x c st p).length\/∃cc:Nat,cc<k/\fC (cT x c st p k) i=qu x c (fC (aR x c st p) p) p cc
 | 0,i,h=>.inl h
 | k+1,i,h=>by
  by_cases hk:i<(cT x c st p k).length
  ·rcases Qy p k i hk with z | ⟨cc,h1,h2⟩
   ·exact .inl z
   ·refine .inr ⟨cc,∅,?_⟩
    obtain⟨r,hr⟩:=qb (x:=x) (c:=c) (st:=st) p k 1;rw[hr,jo hk];exact h2
  ·rw[jY] at h;by_cases hin:(qu x c (fC (aR x c st p) p) p k).key∈(cT x c st p k).map En.key
   ·rw[aL hin] at h; exact absurd h hk
   ·rw[bD hin,c7] at h;have h:i<(cT x c st p k).length+1:=h;have hi:i=(cT x c st p k).length:=by omega
    refine .inr ⟨k,∅,?_⟩
    rw[jY,bD hin];unfold fC;rw[fD,tE ∅,hi,tu]
    rfl
theorem m7:∀p i,1<=i->i<(aR x c st p).length->∃q cc:Nat,q<(aR x c st q).length/\cc<uw c (fC (aR x c st q) q)/\fC (aR x c st p) i=qu x c (fC (aR x c st q) q) q cc
 | 0,i,h1,h=>by simp[aR] at h; omega
 | p+1,i,h1,h=>by
  by_cases hp:p<(aR x c st p).length
  ·have e:=tY hp;rw[e] at h ⊢;rcases Qy p _ i h with z | ⟨cc,g1,g2⟩
   ·obtain⟨q,cc,k1,k2,k3⟩:=m7 p i h1 z;refine⟨q,cc,k1,k2,?_⟩;obtain⟨r,hr⟩:=qb (x:=x) (c:=c) (st:=st) p 0 (uw c (fC (aR x c st p) p));rw[Aw] at hr;have e0:cT x c st p 0=aR x c st p:=rfl;rw[hr,e0,jo z];exact k3
   ·exact⟨p,cc,hp,g1,g2⟩
  ·have e:aR x c st (p+1)=aR x c st p:=by rw[iy,bD hp]
   rw[e] at h ⊢;exact m7 p i h1 h
end
def VN:Sp:=fun vs H Q _=>∃(v:V)(p:Addr)(h:Int)(r:gZ)(dB:List (List Int))(xs:List V),vs=[v,.int h,.ref p]/\At H (mX r) v/\H p=some (.lst xs)/\ak H (dB.map jD) xs/\Yx r/\lW dB/\∀H',aF H H'->Q (sV (says r h dB)) H'
theorem qC:a_ ["_law_row_here","_law_hands","_law_newest","_law_what","_law_span","_law_sign","_law_number","_law_step","_law_at","_law_total"] ["_law_row_here","_law_hands","_law_newest"] (aK mR):=(by walk_at "c")
theorem Bf(F:jc K "_law_row_wish" "_law_row_wish" mR f fd)(B:Bi mg):bZ P w K mg base iJ (k+1) f fd ["_law_row_here","_law_hands","_law_newest"] VN:=by
 refine F.ok qC (by rintro vs H Q E ⟨v,p,h,r,dB,xs,rfl,_⟩; rfl) (0:)
 obtain⟨rA,p,hh,r,dB,xs,rfl,a1,h1,a2,hR,hN,q⟩:=h;have ND:=qC.nd;refine⟨_,(aq (cJ (pv 0) (bG (K:=K) (n:=5) rfl rfl (aA (aC (i:=3)) (aA (aC (i:=4)) (aA (aC (i:=5)) (aA (aC (i:=6)) (aA (aC (i:=7)) bF))))))) (aq (aX (i:=8) (gJ (K:=K) rfl PySem.F.plainAttrs_list PySem.F.slot_list_index PySem.F.type_list_index Ti (bR (aa cD (aa cD (aa cD aj)))) (aa (pv 3) aj))) (aq (aX (i:=9) (pb (qj rfl) B.sum HH (aa (tG (N':=["_law_one","_law_at"]) (js:=[8]) rfl (iT (K:=K) rfl (cz rZ (pv 2) dC (cN (pv 4)))) Lg.mk1 rfl ⋯ rfl (fun fp s' H'=>(bB aW (pv 0) (pv 1) (fun _ _=>rfl)))) aj))) (aq (cX (bj gY (pv 5) cD (bh _)) (aG (aZ (aO yO (aO dX (aO bK (pv 9) (aO gK (pv 6) (pv 4))) ao) (aO gK (pv 6) (pv 4))))) bM) (aq (cX (bj gY (pv 5) cD (bh _)) (aG (aZ (cM (bj jy (pv 9) (aO gK (pv 6) (pv 4)) (bh _)) (aO bK (pv 1) (pv 7)) d9))) bM) (aG (aZ (cM (bj tK (pv 9) (aO gK (pv 6) (pv 4)) (bh _)) (aO bK (pv 1) (pv 7)) d9)))))))),?_⟩
 obtain⟨ra,rfl,g1⟩:=row_shape a1;ext;refine⟨ra,_,rfl,cB.of g1,rfl,?_⟩;ext;have hRi:=hR.is;refine⟨⋯,fun p2 H2 f2 s2 e2=>⟨.inl ⟨rfl,_,d7.of e2⟩,p2,r.w,rfl,e2,rfl,hRi.w,?_⟩⟩
 show jr _ _ _ _ _ _;rw[RN];ext;refine⟨p,_,rfl,d7.of (s2 _ _ h1),fun p3 f3=>?_⟩;rw[j_ ∅,uR]
 have s3:=aM f3 (HO.lst (xs.take r.s));have e3:upd H2 p3 (HO.lst (xs.take r.s)) p3=some (.lst (xs.take r.s)):=aD;generalize upd H2 p3 (HO.lst (xs.take r.s))=H3 at s3 e3 ⊢;have a3:ak H3 ((dB.take r.s).map jD) (xs.take r.s):=by rw[C_]; exact(a2.take r.s).mono (s2.trans s3)
 have hs4:=hRi.s;have htl:(dB.take r.s).length<=4:=by rw[jV]; omega
 refine LCK.of (es:=((dB.take r.s).map fun l=>l.getD (d8 r.w) 0).map .int) e3 (by rw[a3.length,bW,bW,bW]) (jK (bC (by rw[bW,bW]; omega))) (jz _) (fun i y e H' hy he s' R hR'=>?_) (fun acc ys H' s' acS hl hA=>?_)
 ·obtain⟨d,q1,q2⟩:=a3.get hy;rw[g_] at q1;obtain⟨l,el,rfl⟩:=kI.mp q1;obtain⟨c,zs,rfl,k1,k2⟩:=bz (q2.mono s');cases cG k2;rw[g_,g_,el] at he;cases he;have l3:l.length=3:=hN.l l (Qi (jx el));have hw:=ux r.w;show YJ _ _ _ [some _,some (.int _)] H' R;ext;refine Ix.tup k1 (v:=.int (l.getD (d8 r.w) 0)) (bw (by rw[g_,gm ∅,fD,gm ∅]; rfl)) ?_
  exact hR' _ _ (aF.refl _) (At.int _)
 ·have hys:=cG hA;rw[hys] at hl;refine⟨acc,_,rfl,.inl hl,?_⟩;have sm:=s2.trans (s3.trans s');have q1:=q H' sm;unfold says at q1;have et:((dB.take r.s).map fun l=>l.getD (d8 r.w) 0).sum=lX r.w r.s dB:=rfl;rw[et];have cm:YH r.n r.s:=.inr ∅
  refine fj (fun c1=>?_) (fun c1=>?_)
  ·have c1':=uT c1;rw[aL c1'] at q1;have h1n:=hRi.e c1';have hpos:0<r.n*(r.s:Int):=Int.mul_pos ∅ ∅
   have hup:r.n*(r.s:Int)<=1000000000000000000000000000000*4:=Int.mul_le_mul hRi.n.2 ∅ ∅ ⋯
   exact⟨cm,cm,⟨hpos,Int.lt_of_le_of_lt hup ⋯⟩,q1⟩
  ·have c1':=yD c1;rw[bD c1'] at q1;generalize lX r.w r.s dB=tot at q1 ⊢;refine fj (fun c2=>⟨cm,?_⟩) (fun c2=>⟨cm,?_⟩)
   ·have o1:=uT c2;have u1:¬r.g = "under" := by rw[o1]; decide +kernel
    refine fj (fun c3=>?_) (fun c3=>?_)
    ·rw[aL (.inl ⟨o1,uT c3⟩)] at q1; exact q1
    ·rw[bD (fun z=>by rcases z with z | z; exact yD c3 z.2; exact u1 z.1)] at q1; exact q1
   ·have o1:=yD c2
    have u1:r.g = "under" := by
     have hG3:=hR.g;simp only[bT,jW,or_false] at hG3;rcases hG3 with z | z | z
     ·exact absurd z o1
     ·exact z
     ·exact absurd z c1'
    refine fj (fun c3=>?_) (fun c3=>?_)
    ·rw[aL (.inr ⟨u1,uT c3⟩)] at q1; exact q1
    ·rw[bD (fun z=>by rcases z with z | z; exact o1 z.1; exact yD c3 z.2)] at q1; exact q1
def vH:Option Int->PyData
 | none=>.none
 | some i=>.int i
theorem Jq:∀os:List (Option Int),bJ (os.map vH)=true
 | []=>rfl
 | o::os=>by
  show(kE (vH o)&&bJ (os.map vH))=true;rw[Jq os]; cases o <;> rfl
theorem CN{G:Hp}:∀{os:List (Option Int)}{xs:List V},ak G (os.map vH) xs->xs=os.map sV
 | [],xs,h=>ak.jP h
 | o::os,xs,h=>by
  obtain⟨x,r,rfl,h1,h2⟩:=ak.bf h;rw[CN h2];cases o with
  | none=>unfold vH At at h1; rw[h1]; rfl
  | some i=>unfold vH At at h1; rw[h1]; rfl
theorem Ga{l:List V}{d:V}{P:V->Bool}:((List.range l.length).filter fun i=>P (l.getD i d)).map (fun i=>l.getD i d)=l.filter P:=by
 have e:(List.range l.length).map (fun i=>l.getD i d)=l:=by
  apply Dj
  ·simp
  ·intro i h1 h2;rw[List.getElem_map,JX,fD,gm h2]; rfl
 have:=jF (List.filter P) e;rw[List.filter_map] at this;exact this
theorem uF:∀os:List (Option Int),(os.map sV).filter (fun v=>!decide (v=V.non))=(os.filterMap id).map V.int
 | []=>rfl
 | none::os=>by
  rw[oX,List.filter_cons,R6];simp only[sV,decide_true,yr,jM,if_false,id];exact uF os
 | some i::os=>by
  rw[oX,List.filter_cons,R6];have e:(!decide (sV (some i)=V.non))=true:=by simp[sV]
  rw[aL e,uF os]; rfl
def aav(h:Int):List Int->Int
 | []=>h
 | i::_=>i
theorem vI(h:Int)(dB:List (List Int)):∀rs:List gZ,fu h dB rs=aav h ((rs.map fun r=>says r h dB).filterMap id)
 | []=>rfl
 | r::rs=>by
  rw[fu,oX,R6];cases e:says r h dB with
  | none=>simp only[id]; exact vI h dB rs
  | some i=>rfl
def Pq:Sp:=fun vs H Q _=>∃(v:V)(p:Addr)(h:Int)(x:cP)(dB:List (List Int))(xs:List V),vs=[v,.int h,.ref p]/\At H (gH x) v/\H p=some (.lst xs)/\ak H (dB.map jD) xs/\Eo x/\lW dB/\∀H',aF H H'->Q (.int (iK x.cQ x.lo x.hi h dB)) H'
theorem Cr:a_ ["_law_post","_law_hands","_law_newest","_law_wishes","_law_rule","_law_said","_law_some","_law_wanted"] ["_law_post","_law_hands","_law_newest"] (aK xZ):=(by walk_at "c")
theorem SQ(F:jc K "_law_wish" "_law_wish" xZ f fd)(B:Bi mg)(Hu:Ct P w K mg base k "_law_row_wish" ["_law_row_here","_law_hands","_law_newest"] VN):bZ P w K mg base iJ (k+1) f fd ["_law_post","_law_hands","_law_newest"] Pq:=by
 refine F.ok Cr (by rintro vs H Q E ⟨v,p,h,x,dB,xs,rfl,_⟩; rfl) (0:)
 obtain⟨pA,p,hh,x,dB,xs,rfl,a1,h1,a2,hx,hN,q⟩:=h;have ND:=Cr.nd;refine⟨_,(aq (aX (i:=3) (bR aj)) (aq (fZ PassesOwn.never rfl (ig (K:=K) rfl (bB aW (pv 0) ao (fun _ _=>rfl))) (aC (i:=4)) (aq (Qq (i:=5) ND rfl (by walk_at "o") (N':=["_law_row_here","_law_hands","_law_newest"]) (js:=[1,2]) rfl (ig (K:=K) rfl (pv 4)) Lg.mk2 rfl ⋯ rfl (fun fp s' H'=>(pf Hu hr (aa (pv 0) (aa (pv 1) (aa (pv 2) aj)))))) (aq (ph (i:=6) ND rfl (by walk_at "o") (nt:=1) (N':=["_law_one"]) (js:=[]) rfl (iT (K:=K) rfl (pv 5)) jH.of (fun fp s' H'=>(aC (i:=0) (by show List.Nodup (["_law_one"]:List Str); decide) rfl (.inl (h_ rfl)) (.inr (h_ rfl)))) (fun fp s' H'=>wY (bj qd (pv 0) d9 (bh _))) (fun fp s' H'=>(pv 0))) (aG (eQ (gJ (K:=K) rfl PySem.F.plainAttrs_list PySem.F.slot_list_append PySem.F.type_list_append dY (pv 3) (aa (cM (bj (Gr hr.units) (pv 6) (bR aj) (bh _)) (bB aW (pv 6) ao (fun _ _=>rfl)) (pv 1)) aj))))))) (aq (aX (i:=7) (cM (bj (Gr hr.units) (pv 3) (bR aj) (bh _)) (pb (Ef rfl) B.max jG (aa (pv 3) aj)) (pv 1))) (aG (aZ (pb (gG rfl) B.max jG (aa (bB aW (bB aW (pv 0) ao (fun _ _=>rfl)) ao (fun _ _=>rfl)) (aa (pb (dN rfl) B.min gO (aa (bB aW (bB aW (pv 0) ao (fun _ _=>rfl)) ao (fun _ _=>rfl)) (aa (pv 7) aj))) aj)))))))),?_⟩
 obtain⟨pa,pb,pc,pd,rfl,p1,p2,p3,p4⟩:=m5 a1;ext;refine⟨⋯,fun pw H2 f2 s2 e2=>?_⟩
 obtain⟨_,rs,ep,gr,ar⟩:=bz p4;cases ep;have lrs:rs.length=x.cQ.length:=by rw[ar.length,bW]
 rw[rW];ext;refine Ix.tup (s2 _ _ p1) (v:=.ref pd) rfl ?_;refine TK.of (s2 _ _ gr) (fun i σ H'=>∃(o4 o5 o6 o7:Option V),σ=[some (.ref pa),some (.int hh),some (.ref p),some (.ref pw),o4,o5,o6,o7]/\H' pw=some (.lst (((x.cQ.take i).map (fu hh dB)).map V.int))/\SX pw H H')
  ⟨_,_,_,_,rfl,e2,SX.of s2⟩ (fun i σ H' _ ⟨_,_,_,_,_,_,sx⟩=>(SX.same f2 sx) _ _ gr) ?_ ?_
 ·rintro i y σ H3 hy ⟨o4,o5,o6,o7,rfl,e3,sx⟩;have sm:=SX.same f2 sx;obtain⟨d,ed,ad⟩:=ar.get hy;rw[g_] at ed;obtain⟨rl,erl,rfl⟩:=kI.mp ed;have hG:=hx.r rl (jx erl);obtain⟨ra,zs,rfl,g1,g2⟩:=bz (ad.mono sm);have lz:zs.length=rl.length:=by rw[g2.length,bW]
  ext;refine aay (es:=(rl.map fun r=>says r hh dB).map vH) (fun R hR=>?_) g1 (by rw[bW,bW,lz]) (jK (bC (by rw[bW,bW]; have:=hG.hi; omega))) (Jq _) (fun j z e H' hz he s' R hR=>?_) (fun acc ys H4 s4 acS h4 hA=>?_)
  ·ext; exact hR
  ·obtain⟨d,q1,q2⟩:=g2.get hz;rw[g_] at q1;obtain⟨r,er,rfl⟩:=kI.mp q1;rw[g_,g_,er] at he;cases he;show rY _ _ _ _ [some _,some (.int hh),some (.ref p)] H' R;ext;refine⟨_,p,hh,r,dB,xs,rfl,q2.mono s',(sm.trans s') _ _ h1,a2.mono (sm.trans s'),hG.g r (jx er),hN,fun dH s''=>hR _ _ s'' ?_⟩;show At dH (vH (says r hh dB)) (sV (says r hh dB));cases says r hh dB with
   | none=>exact At.non
   | some i=>exact At.int _
  ·have hys:=CN hA;have lys:ys.length=rl.length:=by rw[hys,bW,bW]
   have e4:H4 pw=some (.lst (((x.cQ.take i).map (fu hh dB)).map V.int)):=s4 _ _ e3;refine Ho (fun j=>!decide (ys.getD j .non=V.non)) (fun j=>ys.getD j .non) (fun R hR=>?_) h4 (by have:=hG.hi; omega) (fun j z H' hz s' R hR=>?_) (fun j z H' hz hk s' R hR=>?_) (fun Uu H5 s5 ajT h5=>?_)
   ·ext; exact hR
   ·ext;have ez:ys.getD j .non=z:=by rw[fD,hz]; rfl
    rw[ez] at hR;exact⟨trivial,hR⟩
   ·ext;have ez:ys.getD j .non=z:=by rw[fD,hz]; rfl
    rw[ez] at hR;exact hR
   ·rw[Ga (P:=fun v=>!decide (v=V.non)),hys,uF] at h5;have hrw:=vI hh dB rl;generalize hI:(rl.map fun r=>says r hh dB).filterMap id=is at h5 hrw;have e5:=s5 _ _ e4;have s35:=s4.trans s5
    have ap:∀(v:Int)(H6:Hp),v=fu hh dB rl->aF H5 H6->Gb (V.ref pw) [V.int v] H6 (fun _ H1=>∃(o4 o5 o6 o8:Option V),[some (V.ref pa),some (V.int hh),some (V.ref p),some (V.ref pw),some (V.ref ra),some (V.ref acc),some (V.ref Uu),o7]=[some (V.ref pa),some (V.int hh),some (V.ref p),some (V.ref pw),o4,o5,o6,o8]/\H1 pw=some (HO.lst (List.map V.int (List.map (fu hh dB) (List.take (i+1) x.cQ))))/\SX pw H H1):=fun v H6 hv s6=>by
     refine⟨pw,_,_,rfl,rfl,s6 _ _ e5,bC (by rw[bW,bW,jV]; have:=hx.n; omega),?_⟩
     refine⟨_,_,_,_,rfl,?_,(sx.trans (SX.of (s35.trans s6))).trans SX.upd⟩;rw[take_snoc erl,iZ,iZ,hv];exact aD
    refine⟨.inl ⟨rfl,_,d7.of e5⟩,⋯,fun p6 H6 f6 s6 e6=>?_⟩
    have z:=u_ is;refine⟨.list (is.map .int),.list [],At.lst (s6 _ _ h5) (bI _),At.lst e6 ak.nil,z.1,rfl,z.2.1,rfl,z.2.2,?_⟩;cases is with
    | nil=>
     have eq:PyData.eqv (.list (([]:List Int).map .int)) (.list [])=true:=rfl;rw[eq,bD ⋯]
     exact ap hh H6 hrw.symm s6
    | cons i0 is'=>
     have eq:PyData.eqv (.list ((i0::is').map .int)) (.list [])=false:=rfl;rw[eq,aL ⋯]
     exact Ix.lst (s6 _ _ h5) (v:=.int i0) (bw (j:=0) rfl) (ap i0 H6 hrw.symm s6)
 ·rintro σ H3 ⟨o4,o5,o6,o7,rfl,e3,sx⟩;have sm:=SX.same f2 sx;rw[lrs,mY] at e3;ext;refine⟨⋯,fun p4' H4 f4 s4 e4=>?_⟩
  have fin:∀w:Int,w=topOf hh (x.cQ.map (fu hh dB))->∀H5,aF H H5->Ju (V.ref pa) (V.int 2) H5 fun x H1=>Ju x (V.int 0) H1 fun x H1=>Ju (V.ref pa) (V.int 2) H1 fun x_1 H1=>Ju x_1 (V.int 1) H1 fun x_2 H1=>∃i j,[x_2,V.int w]=[V.int i,V.int j]/\∃i_1 j_1,[x,V.int (if j<i then j else i)]=[V.int i_1,V.int j_1]/\Q (V.int (if j_1>i_1 then j_1 else i_1)) H1:=fun w hw H5 s5=>by
   refine Ix.tup (s5 _ _ p1) (v:=.ref pb) rfl (Ix.tup (s5 _ _ p2) (v:=.int x.lo) rfl (Ix.tup (s5 _ _ p1) (v:=.ref pb) rfl (Ix.tup (s5 _ _ p2) (v:=.int x.hi) rfl ⟨_,_,rfl,_,_,rfl,?_⟩)));have h9:=q H5 s5
   have e9:iK x.cQ x.lo x.hi hh dB=(if(if w<x.hi then w else x.hi)>x.lo then(if w<x.hi then w else x.hi) else x.lo):=by
    unfold iK;rw[<- hw];have:=hx.lo;simp only
    repeat' split <;> try omega
   rw[e9] at h9;exact h9
  have z:=u_ (x.cQ.map (fu hh dB));refine⟨.list ((x.cQ.map (fu hh dB)).map .int),.list [],At.lst (s4 _ _ e3) (bI _),At.lst e4 ak.nil,z.1,rfl,z.2.1,rfl,z.2.2,?_⟩;have sm4:=sm.trans s4;have e3':=s4 _ _ e3;cases hW:x.cQ.map (fu hh dB) with
  | nil=>
   have eq:PyData.eqv (.list (([]:List Int).map .int)) (.list [])=true:=rfl;rw[eq,bD ⋯]
   exact fin hh (by rw[hW]; rfl) _ sm4
  | cons w0 ws=>
   have eq:PyData.eqv (.list ((w0::ws).map .int)) (.list [])=false:=rfl;rw[eq,aL ⋯]
   rw[hW] at e3';refine⟨pw,w0,ws,rfl,e3',?_⟩;exact fin _ (by rw[hW]; rfl) _ sm4
theorem tU{H:Hp}{ds:List PyData}{v:V}(h:At H (.list ds) v):∃a xs,v=.ref a/\H a=some (.lst xs)/\ak H ds xs:=by unfold At at h; exact h
def SD:Nat->PyData->Prop
 | 0,_=>False
 | n+1,d=>(∃i,d=.int i)\/d=.none\/(∃t,d=.str t/\PyData.canLay0 (.str t)=true)\/(∃ds,d=.tuple ds/\ds.length<=1000/\∀e∈ds,SD n e)\/∃ds,d=.list ds/\ds.length<=1000/\∀e∈ds,SD n e
theorem SD.int{n:Nat}(i:Int):SD (n+1) (.int i):=.inl ⟨i,rfl⟩
theorem SD.none{n:Nat}:SD (n+1) .none:=.inr (.inl rfl)
theorem SD.str{n:Nat}{t:Str}(h:PyData.canLay0 (.str t)=true):SD (n+1) (.str t):=.inr (.inr (.inl ⟨t,rfl,h⟩))
theorem SD.tup{n:Nat}{ds:List PyData}(h:ds.length<=1000)(ha:∀e∈ds,SD n e):SD (n+1) (.tuple ds):=.inr (.inr (.inr (.inl ⟨ds,rfl,h,ha⟩)))
theorem SD.lst{n:Nat}{ds:List PyData}(h:ds.length<=1000)(ha:∀e∈ds,SD n e):SD (n+1) (.list ds):=.inr (.inr (.inr (.inr ⟨ds,rfl,h,ha⟩)))
theorem SD.ints{n:Nat}{l:List Int}(h:l.length<=1000):SD (n+2) (.tuple (l.map .int)):=SD.tup (by rw[bW]; exact h) fun e he=>by obtain⟨i,_,rfl⟩:=gW.mp he; exact SD.int i
theorem SD.stn{n:Nat}{st:dW}(h:iY st):SD (n+4) (nY st):=SD.tup (by show 6<=1000; decide) fun e he=>by
 simp only[bT,jW,or_false] at he;rcases he with rfl | rfl | rfl | rfl | rfl | rfl
 ·exact SD.int _
 ·exact SD.int _
 ·exact SD.ints (by rw[h.c]; decide)
 ·exact SD.int _
 ·exact SD.int _
 ·exact SD.tup (by rw[bW,h.u]; decide) fun e he=>by
   obtain⟨u,hu,rfl⟩:=gW.mp he;exact SD.ints (by rw[h.l u hu]; decide)
theorem SD.ent{n:Nat}{cv:Cv}{e:En}(hv:Il cv)(h:ur cv e):SD (n+5) (j9 e):=by
 have h1:SD (n+4) (nY e.st):=SD.stn h.st;have h2:SD (n+4) (.tuple (e.sp.map .int)):=SD.ints (by rw[h.sl]; have:=hv.n; omega)
 unfold j9 frD;refine SD.tup (by split <;> (show 4<=1000; decide)) fun d hd=>?_
 rcases lE.mp hd with z | z
 ·simp only[bT,jW,or_false] at z;rcases z with rfl | rfl
  ·exact h1
  ·exact h2
 ·split at z
  ·simp only[bT,jW,or_false] at z;rcases z with rfl | rfl <;> exact SD.none
  ·simp only[bT,jW,or_false] at z;rcases z with rfl | rfl <;> exact SD.int _
theorem SD.ents{n:Nat}{cv:Cv}{es:List En}(hv:Il cv)(hl:es.length<=1000)(h:∀e∈es,ur cv e):SD (n+6) (.list (es.map j9)):=SD.lst (by rw[bW]; exact hl) fun d hd=>by
 obtain⟨e,he,rfl⟩:=gW.mp hd;exact SD.ent hv (h e he)
theorem SD.data:∀(n:Nat)(d:PyData),SD n d->PyData.hasDict d=false/\PyData.canLay0 d=true/\PyData.depth d<=n
 | 0,_,h=>h.elim
 | n+1,d,h=>by
  have all:∀ds:List PyData,(∀e∈ds,SD n e)->PyData.hasDictAll ds=false/\PyData.canLayAll0 ds=true/\PyData.depthAll ds<=n:=fun ds=>by
   induction ds with
   | nil=>exact fun _=>⟨rfl,rfl,fG _⟩
   | cons e r ih=>
    intro ha;obtain⟨h1,h2,h3⟩:=ih fun e he=>ha e (iR _ he);obtain⟨k1,k2,k3⟩:=SD.data n e (ha e jw);refine⟨?_,?_,?_⟩
    ·unfold PyData.hasDictAll; rw[k1,h1]; rfl
    ·unfold PyData.canLayAll0; rw[k2,h2]; rfl
    ·unfold PyData.depthAll; exact Nat.max_le.mpr ⟨k3,h3⟩
  rcases h with⟨i,rfl⟩ | rfl | ⟨t,rfl,hc⟩ | ⟨ds,rfl,hn,hds⟩ | ⟨ds,rfl,hn,hds⟩
  ·exact⟨rfl,rfl,fG _⟩
  ·exact⟨rfl,rfl,fG _⟩
  ·exact⟨rfl,hc,fG _⟩
  ·obtain⟨h1,h2,h3⟩:=all ds hds;exact⟨by unfold PyData.hasDict; exact h1,by unfold PyData.canLay0; exact h2,by unfold PyData.depth; omega⟩
  ·obtain⟨h1,h2,h3⟩:=all ds hds;exact⟨by unfold PyData.hasDict; exact h1,by unfold PyData.canLay0; exact h2,by unfold PyData.depth; omega⟩
def RW(n:Nat):Sp:=fun vs H Q _=>∃(v u:V)(d d':PyData),vs=[v,u]/\At H d v/\At H d' u/\SD n d/\SD n d'/\n<=60/\∀b H',(b=true↔d=d')->aF H H'->Q (.bl b) H'
theorem Sm.of{n:Nat}{v u:V}{d:PyData}{H:Hp}{Q:VK}{E:XK}(h1:At H d v)(h2:At H d u)(h3:SD n d)(hn:n<=60)(q:∀H',aF H H'->Q (.bl true) H'):RW n [v,u] H Q E:=⟨v,u,d,d,rfl,h1,h2,h3,h3,hn,fun b H' hb s=>by rw[hb.mpr rfl]; exact q H' s⟩
theorem uE:a_ ["_law_found","_law_due"] ["_law_found","_law_due"] (aK sW):=(by walk_at "c")
theorem MN(F:jc K "_law_same" "_law_same" sW f fd):bZ P w K mg base iJ (k+1) f fd ["_law_found","_law_due"] (RW 0):=by
 refine F.ok uE (by rintro vs H Q E ⟨v,u,d,d',rfl,_⟩; rfl) (0:)
 obtain⟨v,u,d,d',rfl,_,_,h,_⟩:=h;exact h.elim
theorem rQ{G:Hp}:∀{bs:List Bool}{xs:List V},ak G (bs.map PyData.bool) xs->xs=bs.map V.bl
 | [],xs,h=>by unfold ak at h; exact h
 | b::bs,xs,h=>by
  obtain⟨x,r,rfl,h1,h2⟩:=ak.bf (d:=PyData.bool b) (ds:=bs.map PyData.bool) h;unfold At at h1;rw[h1,rQ h2]; rfl
noncomputable def U0(a b:PyData):Bool:=@decide (a=b) (Classical.propDecidable _)
theorem Hl{a b:PyData}:U0 a b=true↔a=b:=by unfold U0; exact @decide_eq_true_iff _ (Classical.propDecidable _)
theorem X8{a b:PyData}{c:Bool}(h:c=true↔a=b):c=U0 a b:=by
 cases c with
 | true=>exact(Hl.mpr (h.mp rfl)).symm
 | false=>cases e:U0 a b with
  | true=>exact absurd (h.mpr (Hl.mp e)) ⋯
  | false=>rfl
theorem Es:∀{ds es:List PyData},ds.length=es.length->((List.zipWith U0 ds es).all id=true↔ds=es)
 | [],[],_=>by simp
 | a::r,b::s,h=>by
  have ih:=Es (ds:=r) (es:=s) (by simpa using h)
  rw[List.zipWith_cons_cons,List.all_cons,Gg,ih];show U0 a b=true/\_↔_;rw[Hl,List.cons.injEq]
theorem jf(n:Nat)(F:jc K "_law_same" "_law_same" sW f fd)(B:Bi mg)(uh:Ct P w K mg base k "_law_same" ["_law_found","_law_due"] (RW n)):bZ P w K mg base iJ (k+1) f fd ["_law_found","_law_due"] (RW (n+1)):=by
 refine F.ok uE (by rintro vs H Q E ⟨v,u,d,d',rfl,_⟩; rfl) (0:)
 obtain⟨v,u,d,d',rfl,hv,hu,hd,hd',akT,q⟩:=h;have ND:=uE.nd;refine⟨_,(aq (cX (fY (pb Xr B.isinstance bu (aa (pv 1) (aa (aV (aa (pty (by rfl) B.list iW) (aa (pty (by rfl) B.tuple dG) aj))) aj)))) (aq (cX (PW.pt (J0 (bj WQ (pb Q3 B.isinstance bu (aa (pv 0) (aa (pty (by rfl) B.list iW) aj))) (pb Q3 B.isinstance bu (aa (pv 1) (aa (pty (by rfl) B.list iW) aj))) (bh _)) (Gm (bj WQ (pb Q0 B.isinstance bu (aa (pv 0) (aa (pty (by rfl) B.tuple dG) aj))) (pb Q0 B.isinstance bu (aa (pv 1) (aa (pty (by rfl) B.tuple dG) aj))) (bh _))))) (aG (aZ jX)) bM) (aG (aZ (pq (eY gY (pb (jk (K:=K) rfl) B.len rP (aa (pv 0) aj)) (pb (jk (K:=K) rfl) B.len rP (aa (pv 1) aj)) (bh _)) (qZ (pb (Uj rfl) B.all ac4 (aa (gw (nt:=2) (N':=["_law_one","_law_other"]) (js:=[]) rfl (ZQ (K:=K) rfl B.zip (aa (pv 0) (aa (pv 1) aj))) jH.of (fun fp s' H'=>(bG (K:=K) (n:=2) rfl rfl (aA (aC (i:=0) (by show List.Nodup (["_law_one","_law_other"]:List Str); decide) rfl (.inl (h_ rfl)) (.inr (h_ rfl))) (aA (aC (i:=1) (by show List.Nodup (["_law_one","_law_other"]:List Str); decide) rfl (.inl (h_ rfl)) (.inr (h_ rfl))) bF)))) (fun fp s' H'=>ik) (fun fp s' H'=>(pf uh hr (aa (pv 0) (aa (pv 1) aj))))) aj))))))) bM) (aq (cX (PW.pt (J0 (bj MF (pv 1) d9 (bh _)) (Gm (fY (pb wX B.isinstance bu (aa (pv 1) (aa (pty (by rfl) B.str HJ) aj))))))) (aG (aZ (pq (eY (WR hr.units) (pv 0) (pv 1) (bh _)) (qZ (eY gY (pb wX B.isinstance bu (aa (pv 0) (aa (pty (by rfl) B.str HJ) aj))) (pb wX B.isinstance bu (aa (pv 1) (aa (pty (by rfl) B.str HJ) aj))) (bh _)))))) bM) (aG (aZ (pq (pb aar B.isinstance bu (aa (pv 0) (aa (pty (by rfl) B.int vq) aj))) (pq (Wx (pb Xv B.isinstance bu (aa (pv 0) (aa (pty (by rfl) B.bool aaF) aj)))) (qZ (eY (WR hr.units) (pv 0) (pv 1) (bh _))))))))),?_⟩
 ext;refine⟨⋯,fun pt H1 f1 s1 e1=>?_⟩
 refine⟨_,d',pt,rfl,hu.mono s1,e1,?_⟩;have hv1:=hv.mono s1;have hu1:=hu.mono s1;obtain⟨D1,D2,D3⟩:=SD.data _ _ hd;obtain⟨E1,E2,E3⟩:=SD.data _ _ hd';have no:¬d=d'->Q (.bl false) H1:=fun h=>q false H1 ⟨fun z=>(by cases z),fun z=>absurd z h⟩ s1
 rcases hd' with⟨i,rfl⟩ | rfl | ⟨t,rfl,hc⟩ | ⟨ds',rfl,hn',acP⟩ | ⟨ds',rfl,hn',acP⟩
 ·have eu:u=.int i:=by unfold At at hu; exact hu
  subst eu;rw[bD (by exact fun z=>by cases z)]
  refine⟨trivial,?_⟩;rw[bD (by rw[decide_eq_true_eq]; exact fun z=>by cases z)]
  refine Lp.of hu1 ⟨_,rfl,?_⟩;rw[bD (by exact fun z=>by cases z)]
  refine Lp.of hv1 ⟨_,rfl,?_⟩;rcases hd with⟨j,rfl⟩ | rfl | ⟨t,rfl,hc⟩ | ⟨ds,rfl,hn,hds⟩ | ⟨ds,rfl,hn,hds⟩
  ·rw[aL (by rfl)]
   refine Lp.of hv1 ⟨_,rfl,?_⟩;rw[aL (by rfl)]
   refine⟨_,_,hv1,hu1,rfl,rfl,rfl,rfl,by show 0<=60; decide,?_⟩
   exact q _ H1 (by show(j==i)=true↔_; simp) s1
  all_goals
   rw[bD (by exact fun z=>by cases z)]
   exact no fun z=>by cases z
 ·have eu:u=.non:=by unfold At at hu; exact hu
  subst eu;rw[bD (by exact fun z=>by cases z)]
  refine⟨trivial,?_⟩;rw[aL (by rfl)]
  refine⟨_,_,hv1,hu1,D1,E1,D2,E2,∅,?_⟩
  rcases hd with⟨j,rfl⟩ | rfl | ⟨t,rfl,hc⟩ | ⟨ds,rfl,hn,hds⟩ | ⟨ds,rfl,hn,hds⟩
  ·rw[bD (by exact fun z=>by cases z)]; exact no fun z=>by cases z
  ·rw[aL (by rfl)]
   refine Lp.of hv1 (Lp.of hu1 ⟨rfl,?_⟩);have e:decide (V.bl (isStr .none)=V.bl (isStr .none))=true:=by rw[decide_eq_true_eq]
   rw[e];exact q true _ (by simp) s1
  ·rw[bD (by exact fun z=>by cases z)]; exact no fun z=>by cases z
  ·rw[bD (by exact fun z=>by cases z)]; exact no fun z=>by cases z
  ·rw[bD (by exact fun z=>by cases z)]; exact no fun z=>by cases z
 ·have eu:u=.str t:=by unfold At at hu; exact hu
  subst eu;rw[bD (by exact fun z=>by cases z)]
  refine⟨trivial,?_⟩;rw[bD (by rw[decide_eq_true_eq]; exact fun z=>by cases z)]
  refine Lp.of hu1 ⟨_,rfl,?_⟩;rw[aL (by rfl)]
  refine⟨_,_,hv1,hu1,D1,E1,D2,E2,∅,?_⟩
  rcases hd with⟨j,rfl⟩ | rfl | ⟨t',rfl,hc'⟩ | ⟨ds,rfl,hn,hds⟩ | ⟨ds,rfl,hn,hds⟩
  ·rw[bD (by exact fun z=>by cases z)]; exact no fun z=>by cases z
  ·rw[bD (by exact fun z=>by cases z)]; exact no fun z=>by cases z
  ·by_cases c:t'=t
   ·subst c;rw[SeqAt.eqv_refl _ hc,aL rfl];refine Lp.of hv1 (Lp.of hu1 ⟨rfl,?_⟩);have e:decide (V.bl (isStr (.str t'))=V.bl (isStr (.str t')))=true:=by rw[decide_eq_true_eq]
    rw[e];exact q true _ (by simp) s1
   ·rw[bD (by show ¬((t'==t)=true); simpa using c)]
    exact no fun z=>by cases z; exact c rfl
  ·rw[bD (by exact fun z=>by cases z)]; exact no fun z=>by cases z
  ·rw[bD (by exact fun z=>by cases z)]; exact no fun z=>by cases z
 ·rw[aL (by rfl)]
  refine Lp.of hv1 (Lp.of hu1 ⟨rfl,_,rfl,?_⟩);rcases hd with⟨j,rfl⟩ | rfl | ⟨t,rfl,hc⟩ | ⟨ds,rfl,hn,hds⟩ | ⟨ds,rfl,hn,hds⟩
  rotate_right 1
  ·rw[aL (by show(!decide (V.bl true=V.bl false))=true; decide)]
   exact no fun z=>by cases z
  all_goals
   rw[bD (by show ¬((!decide (V.bl false=V.bl false))=true); decide)]
   refine Lp.of hv1 (Lp.of hu1 ⟨rfl,_,rfl,?_⟩)
  ·rw[aL (by show(!decide (V.bl false=V.bl true))=true; decide)]; exact no fun z=>by cases z
  ·rw[aL (by show(!decide (V.bl false=V.bl true))=true; decide)]; exact no fun z=>by cases z
  ·rw[aL (by show(!decide (V.bl false=V.bl true))=true; decide)]; exact no fun z=>by cases z
  rw[bD (by show ¬((!decide (V.bl true=V.bl true))=true); decide)]
  obtain⟨a,xs,rfl,ha,hxs⟩:=bz hv1;obtain⟨b,ys,rfl,hb,hys⟩:=bz hu1;have lx:xs.length=ds.length:=hxs.length;have ly:ys.length=ds'.length:=hys.length;refine⟨a,xs,rfl,.inr (cB.of ha),b,ys,rfl,.inr (cB.of hb),?_⟩;rw[lx,ly];refine⟨rfl,_,rfl,?_⟩;by_cases cl:ds.length=ds'.length
  ·rw[aL (by rw[decide_eq_true_eq,cl])]
   rw[Cg];refine .inl ?_;have lz:(List.zipWith U0 ds ds').length=ds.length:=by rw[Az,cl,CV]
   refine Ea (es:=(List.zipWith U0 ds ds').map PyData.bool) (fun R hR=>?_) ha hb (by rw[bW,lz,lx]) (by rw[bW,lz,ly,cl]) (by rw[bW,lz]; exact jK (bC ∅)) (cL.mpr fun d hd=>by obtain⟨z,_,rfl⟩:=gW.mp hd; rfl) (fun j x y e H' hx hy he s' R hR=>?_) (fun acc zs H' s' hacc hl hA=>?_)
   ·ext; exact hR
   ·obtain⟨d1,e1,a1⟩:=hxs.get hx;obtain⟨d2,e2,a2⟩:=hys.get hy
    have ee:e=.bool (U0 d1 d2):=by
     rw[g_,Jz,e1,e2] at he;exact(Option.some.inj he).symm
    ext;refine⟨x,y,d1,d2,rfl,a1.mono s',a2.mono s',hds _ (jx e1),acP _ (jx e2),∅,fun b dH hb s''=>hR _ _ s'' ?_⟩
    rw[ee,X8 hb];exact At.bool _
   ·cases rQ hA;refine⟨acc,_,rfl,hl,?_⟩;exact q _ H' (by rw[Es cl]; exact⟨fun z=>by rw[z],fun z=>by cases z; rfl⟩) (s1.trans s')
  ·rw[bD (by rw[decide_eq_true_eq]; exact fun z=>cl (by exact_mod_cast V.int.inj z))]
   exact no fun z=>by cases z; exact cl rfl
 ·rw[aL (by rfl)]
  refine Lp.of hv1 (Lp.of hu1 ⟨rfl,_,rfl,?_⟩);rcases hd with⟨j,rfl⟩ | rfl | ⟨t,rfl,hc⟩ | ⟨ds,rfl,hn,hds⟩ | ⟨ds,rfl,hn,hds⟩
  ·rw[aL (by show(!decide (V.bl false=V.bl true))=true; decide)]; exact no fun z=>by cases z
  ·rw[aL (by show(!decide (V.bl false=V.bl true))=true; decide)]; exact no fun z=>by cases z
  ·rw[aL (by show(!decide (V.bl false=V.bl true))=true; decide)]; exact no fun z=>by cases z
  ·rw[aL (by show(!decide (V.bl false=V.bl true))=true; decide)]; exact no fun z=>by cases z
  rw[bD (by show ¬((!decide (V.bl true=V.bl true))=true); decide)]
  refine Lp.of hv1 (Lp.of hu1 ⟨rfl,_,rfl,?_⟩);rw[bD (by show ¬((!decide (V.bl false=V.bl false))=true); decide)]
  obtain⟨a,xs,rfl,ha,hxs⟩:=tU hv1;obtain⟨b,ys,rfl,hb,hys⟩:=tU hu1;have lx:xs.length=ds.length:=hxs.length;have ly:ys.length=ds'.length:=hys.length;refine⟨a,xs,rfl,.inl (d7.of ha),b,ys,rfl,.inl (d7.of hb),?_⟩;rw[lx,ly];refine⟨rfl,_,rfl,?_⟩;by_cases cl:ds.length=ds'.length
  ·rw[aL (by rw[decide_eq_true_eq,cl])]
   rw[Cg];refine .inr ?_;have lz:(List.zipWith U0 ds ds').length=ds.length:=by rw[Az,cl,CV]
   refine T_ (es:=(List.zipWith U0 ds ds').map PyData.bool) (fun R hR=>?_) ha hb (by rw[bW,lz,lx]) (by rw[bW,lz,ly,cl]) (by rw[bW,lz]; exact jK (bC ∅)) (cL.mpr fun d hd=>by obtain⟨z,_,rfl⟩:=gW.mp hd; rfl) (fun j x y e H' hx hy he s' R hR=>?_) (fun acc zs H' s' hacc hl hA=>?_)
   ·ext; exact hR
   ·obtain⟨d1,e1,a1⟩:=hxs.get hx;obtain⟨d2,e2,a2⟩:=hys.get hy
    have ee:e=.bool (U0 d1 d2):=by
     rw[g_,Jz,e1,e2] at he;exact(Option.some.inj he).symm
    ext;refine⟨x,y,d1,d2,rfl,a1.mono s',a2.mono s',hds _ (jx e1),acP _ (jx e2),∅,fun b dH hb s''=>hR _ _ s'' ?_⟩
    rw[ee,X8 hb];exact At.bool _
   ·cases rQ hA;refine⟨acc,_,rfl,hl,?_⟩;exact q _ H' (by rw[Es cl]; exact⟨fun z=>by rw[z],fun z=>by cases z; rfl⟩) (s1.trans s')
  ·rw[bD (by rw[decide_eq_true_eq]; exact fun z=>cl (by exact_mod_cast V.int.inj z))]
   exact no fun z=>by cases z; exact cl rfl
structure ZM(K:Frag)(mg:Str->Option Value)(bO eN eO dz dw du eG dq aH aJ:Addr):Prop where
 vA:mg "HandError" = some (.ref bO)
 adi:mg "Beyond" = some (.ref eN)
 adk:mg "BadAsk" = some (.ref eO)
 aaS:mg "BadLoad" = some (.ref dz)
 aaR:mg "BadText" = some (.ref dw)
 aaQ:mg "BadYard" = some (.ref du)
 adb:mg "NoName" = some (.ref eG)
 aaL:mg "TooLong" = some (.ref dq)
 HS:mg "TooMany" = some (.ref aH)
 HR:mg "TooWide" = some (.ref aJ)
 zN:exmOne K (.ref aH) (.ref bO)=some true
 nj:YT K aH
 Ot:(clsIn K aH).isSome=true
 Nu:kitOne K (.ref aH) (.ref dz)=some false
 TQ:kitOne K (.ref aH) (.ref eN)=some false
 Nr:kitOne K (.ref aH) (.ref du)=some false
 TF:kitOne K (.ref aH) (.ref eG)=some false
 Nq:kitOne K (.ref aH) (.ref dq)=some false
 rC:kitOne K (.ref aH) (.ref aJ)=some false
 rD:kitOne K (.ref aH) (.ref aH)=some true
 TV:kitOne K (.ref aH) (.ref eO)=some false
 Nt:kitOne K (.ref aH) (.ref dw)=some false
 G_:kitOne K (.ref aH) (.ref bO)=some true
 v_m:kitOne K (.ref aH) (.type "ValueError")=some true
 acX:exmOne K (.ref aJ) (.ref bO)=some true
 m_:YT K aJ
 Oq:(clsIn K aJ).isSome=true
 Np:kitOne K (.ref aJ) (.ref dz)=some false
 Tw:kitOne K (.ref aJ) (.ref eN)=some false
 Nk:kitOne K (.ref aJ) (.ref du)=some false
 Tv:kitOne K (.ref aJ) (.ref eG)=some false
 Nj:kitOne K (.ref aJ) (.ref dq)=some false
 Ng:kitOne K (.ref aJ) (.ref aJ)=some true
 Nh:kitOne K (.ref aJ) (.ref aH)=some false
 Tz:kitOne K (.ref aJ) (.ref eO)=some false
 Nm:kitOne K (.ref aJ) (.ref dw)=some false
 G9:kitOne K (.ref aJ) (.ref bO)=some true
 v_w:kitOne K (.ref aJ) (.type "ValueError")=some true
variable{bO eN eO dz dw du eG dq aH aJ:Addr}
def VV(CM CW:Addr):Sp:=fun vs H Q _=>∃(a D:Addr),vs=[.ref a]/\YB H a (.ref D)/\(D=CM\/D=CW)/\(D=CM->∀H',aF H H'->Q (.str "many") H')/\(D=CW->∀H',aF H H'->Q (.str "wide") H')
theorem sG:a_ ["_law_caught","_law_some","_law_words","_law_good"] ["_law_caught"] (aK oU):=(by walk_at "c")
theorem Gy(F:jc K "_law_refused" "_law_refused" oU f fd)(B:Bi mg)(Z:ZM K mg bO eN eO dz dw du eG dq aH aJ) :
  bZ P w K mg base iJ (k+1) f fd ["_law_caught"] (VV aH aJ):=by
 refine F.ok sG (by rintro vs H Q E ⟨a,D,rfl,_⟩; rfl) (0:)
 obtain⟨a,D,rfl,hE,hD,qM,qW⟩:=h;have ND:=sG.nd;refine⟨_,(aq (aX (i:=1) (bR (aa (pb (iU (K:=K) rfl) B.isinstance bu (aa (pv 0) (aa (gD (v:=.ref dz) rfl Z.aaS rfl) aj))) (aa (pb (iU (K:=K) rfl) B.isinstance bu (aa (pv 0) (aa (gD (v:=.ref eN) rfl Z.adi rfl) aj))) (aa (pb (iU (K:=K) rfl) B.isinstance bu (aa (pv 0) (aa (gD (v:=.ref du) rfl Z.aaQ rfl) aj))) aj))))) (aq (aX (i:=1) (aO uX (pv 1) (bR (aa (pb (iU (K:=K) rfl) B.isinstance bu (aa (pv 0) (aa (gD (v:=.ref eG) rfl Z.adb rfl) aj))) (aa (pb (iU (K:=K) rfl) B.isinstance bu (aa (pv 0) (aa (gD (v:=.ref dq) rfl Z.aaL rfl) aj))) (aa (pb (iU (K:=K) rfl) B.isinstance bu (aa (pv 0) (aa (gD (v:=.ref aJ) rfl Z.HR rfl) aj))) aj)))))) (aq (aX (i:=1) (aO uX (pv 1) (bR (aa (pb (iU (K:=K) rfl) B.isinstance bu (aa (pv 0) (aa (gD (v:=.ref aH) rfl Z.HS rfl) aj))) (aa (pb (iU (K:=K) rfl) B.isinstance bu (aa (pv 0) (aa (gD (v:=.ref eO) rfl Z.adk rfl) aj))) (aa (pb (iU (K:=K) rfl) B.isinstance bu (aa (pv 0) (aa (gD (v:=.ref dw) rfl Z.aaR rfl) aj))) aj)))))) (aq (aX (i:=2) (bR (aa cD (aa cD (aa cD (aa cD (aa cD (aa cD (aa cD (aa cD (aa cD aj))))))))))) (aq (aX (i:=3) (pq (pb (iU (K:=K) rfl) B.isinstance bu (aa (pv 0) (aa (gD (v:=.ref bO) rfl Z.vA rfl) aj))) (pq (pb (iU (K:=K) rfl) B.isinstance bu (aa (pv 0) (aa (pty (by rfl) B.ValueError Bw) aj))) (qZ (eY gY (gJ (K:=K) rfl PySem.F.plainAttrs_list PySem.F.slot_list_count PySem.F.type_list_count M9 (pv 1) (aa jX aj)) ao (bh _)))))) (aG (aZ (cM (fY (pv 3)) (bB aW (pv 2) (gJ (K:=K) rfl PySem.F.plainAttrs_list PySem.F.slot_list_index PySem.F.type_list_index M8 (pv 1) (aa jX aj)) (fun _ _=>rfl)) cD)))))))),?_⟩
 ext;have R:∀(C u:_),RelV (.ref C) u->u=Value.ref C:=fun C u z=>z;have RT:∀u,RelV (V.ty "ValueError") u->u=Value.type "ValueError" := fun u z=>z;have mono:∀{H':Hp},aF H H'->YB H' a (.ref D):=fun {H'} s'=>by obtain⟨T,e⟩:=hE; exact⟨T,s' _ _ e⟩
 obtain⟨bm,hk,hcl,k1,k2,k3,k4,k5,k6,k7,k8,k9,kh,kv,qq⟩:∃bm:Bool,YT K D/\(clsIn K D).isSome=true/\kitOne K (.ref D) (.ref dz)=some false/\kitOne K (.ref D) (.ref eN)=some false/\kitOne K (.ref D) (.ref du)=some false/\kitOne K (.ref D) (.ref eG)=some false/\kitOne K (.ref D) (.ref dq)=some false/\kitOne K (.ref D) (.ref aJ)=some (!bm)/\kitOne K (.ref D) (.ref aH)=some bm/\kitOne K (.ref D) (.ref eO)=some false/\kitOne K (.ref D) (.ref dw)=some false/\kitOne K (.ref D) (.ref bO)=some true/\kitOne K (.ref D) (.type "ValueError")=some true/\∀H',aF H H'->Q (.str (if bm then "many" else "wide")) H':=by
  rcases hD with rfl | rfl
  ·exact⟨true,Z.nj,Z.Ot,Z.Nu,Z.TQ,Z.Nr,Z.TF,Z.Nq,Z.rC,Z.rD,Z.TV,Z.Nt,Z.G_,Z.v_m,qM rfl⟩
  ·exact⟨false,Z.m_,Z.Oq,Z.Np,Z.Tw,Z.Nk,Z.Tv,Z.Nj,Z.Ng,Z.Nh,Z.Tz,Z.Nm,Z.G9,Z.v_w,qW rfl⟩
 refine⟨a,_,_,_,_,rfl,hE,hk,hcl,rfl,R _,k1,a,_,_,_,_,rfl,hE,hk,hcl,rfl,R _,k2,a,_,_,_,_,rfl,hE,hk,hcl,rfl,R _,k3,⋯,fun p1 H1 f1 s1 e1=>?_⟩
 refine⟨a,_,_,_,_,rfl,mono s1,hk,hcl,rfl,R _,k4,a,_,_,_,_,rfl,mono s1,hk,hcl,rfl,R _,k5,a,_,_,_,_,rfl,mono s1,hk,hcl,rfl,R _,k6,⋯,fun p2 H2 f2 s2 e2=>Jv.of (s2 _ _ e1) e2 (aai (by show _+_<=1000; simp)) fun p3 H3 f3 s3 e3=>?_⟩
 have pY:=s1.trans (s2.trans s3);refine⟨a,_,_,_,_,rfl,mono pY,hk,hcl,rfl,R _,k7,a,_,_,_,_,rfl,mono pY,hk,hcl,rfl,R _,k8,a,_,_,_,_,rfl,mono pY,hk,hcl,rfl,R _,k9,⋯,fun p4 H4 f4 s4 e4=>Jv.of (s4 _ _ e3) e4 (aai (by show _+_<=1000; simp)) fun p5 H5 f5 s5 e5=>?_⟩
 have CP:=pY.trans (s4.trans s5);have e5:H5 p5=some (.lst ([false,false,false,false,false,!bm,bm,false,false].map V.bl)):=e5;refine⟨⋯,fun p6 H6 f6 s6 e6=>?_⟩
 have Al:=CP.trans s6;have e56:=s6 _ _ e5;refine⟨a,_,_,_,_,rfl,mono Al,hk,hcl,rfl,R _,kh,?_⟩;rw[aL rfl];refine⟨a,_,_,_,_,rfl,mono Al,hk,hcl,rfl,RT,kv,?_⟩;rw[aL rfl];refine⟨.inl ⟨rfl,_,d7.of e56⟩,p5,_,rfl,e56,rfl,?_⟩;have ag4:List.countP id [false,false,false,false,false,!bm,bm,false,false]=1:=by cases bm <;> decide
 rw[ag4];refine⟨rfl,_,rfl,?_⟩;rw[aL ⋯]
 cases bm with
 | true=>
  refine⟨.inl ⟨rfl,_,d7.of e56⟩,p5,_,6,rfl,e56,rfl,⋯,⟨rfl,fun m hm=>?_⟩,?_⟩
  ·have:m=0\/m=1\/m=2\/m=3\/m=4\/m=5:=by omega
   rcases this with rfl | rfl | rfl | rfl | rfl | rfl <;> simp
  ·exact Ix.lst e6 (v:=.str "many") rfl (qq H6 Al)
 | false=>
  refine⟨.inl ⟨rfl,_,d7.of e56⟩,p5,_,5,rfl,e56,rfl,⋯,⟨rfl,fun m hm=>?_⟩,?_⟩
  ·have:m=0\/m=1\/m=2\/m=3\/m=4:=by omega
   rcases this with rfl | rfl | rfl | rfl | rfl <;> simp
  ·exact Ix.lst e6 (v:=.str "wide") rfl (qq H6 Al)
def RX(n:Nat):Sp:=fun vs H Q _=>∃(v:V)(d:PyData)(S:List Addr),vs=[v]/\SD n d/\Tr H d v S/\S.Nodup/\∀H',BJ S H H'->Q .non H'
theorem oE:a_ ["_law_thing","_law_one"] ["_law_thing"] (aK mU):=(by walk_at "c")
theorem Gz(F:jc K "_law_marked" "_law_marked" mU f fd):bZ P w K mg base iJ (k+1) f fd ["_law_thing"] (RX 0):=by
 refine F.ok oE (by rintro vs H Q E ⟨v,d,S,rfl,_⟩; rfl) (0:)
 obtain⟨v,d,S,rfl,h,_⟩:=h;exact h.elim
theorem gA(n:Nat)(F:jc K "_law_marked" "_law_marked" mU f fd)(B:Bi mg)(rM:Ct P w K mg base k "_law_marked" ["_law_thing"] (RX n)):bZ P w K mg base iJ (k+1) f fd ["_law_thing"] (RX (n+1)):=by
 refine F.ok oE (by rintro vs H Q E ⟨v,d,S,rfl,_⟩; rfl) (0:)
 obtain⟨v,d,S,rfl,hd,ht,nd,q⟩:=h;have ND:=oE.nd;refine⟨_,(aq (cX (fY (pb Xr B.isinstance bu (aa (pv 0) (aa (aV (aa (pty (by rfl) B.list iW) (aa (pty (by rfl) B.tuple dG) aj))) aj)))) (aG (fZ PassesOwn.never rfl (iT (K:=K) rfl (pt (Uh) B.list iW (aa (pv 0) aj))) (aC (i:=1)) (aG (eQ (pf rM hr (aa (pv 1) aj)))))) bM) (aG (cX (fY (pb Xu B.isinstance bu (aa (pv 0) (aa (pty (by rfl) B.list iW) aj)))) (aq (eQ (gJ (K:=K) rfl PySem.F.plainAttrs_list PySem.F.slot_list_append PySem.F.type_list_append dY (pv 0) (aa cD aj))) (aG (eQ (aco PySem.F.plainAttrs_list PySem.F.slot_list_reverse PySem.F.type_list_reverse M7 (pv 0))))) bM))),?_⟩
 simp only[Jo];have at0:=Tr.at d v S ht
 have loop:∀(ds:List PyData)(xs:List V)(S0:List Addr)(o1:Option V)(H1:Hp)(l:Addr)(D:Ends),aF H H1->H l=none->H1 l=some (.lst xs)->aQ H ds xs S0->S0.Nodup->(∀e∈ds,SD n e)->(∀o H',BJ S0 H H'->D.nx [some v,o] H')->LK K (fV 1) (Vz (rY (RX n) [] E0 (Jb (xx 1) Vx))) D [some v,o1] (.ref l) H1:=fun ds xs S0 o1 H1 l D s1 fl el hT nd0 hds hD=>by
  have out:∀b∈S0,b≠l:=fun b hb z=>by
   obtain⟨ys,e⟩:=aQ.tR ds xs S0 hT b hb;rw[z,fl] at e; cases e
  obtain⟨Pv,hPv⟩:∃Pv:Nat->St->Hp->Prop,∀i σ H',Pv i σ H'↔(∃(o:Option V)(A C:List Addr),σ=[some v,o]/\S0=A++C/\aQ H (ds.take i) (xs.take i) A/\BJ A H H'/\H' l=some (.lst xs)):=⟨_,fun _ _ _=>kO⟩;refine LK.of el Pv ((hPv _ _ _).mpr ⟨_,[],S0,rfl,rfl,by unfold aQ; exact⟨rfl,rfl⟩,BJ.of s1,el⟩) (fun i σ H' _ hh=>?_) ?_ ?_
  ·obtain⟨_,_,_,_,_,_,_,e⟩:=(hPv _ _ _).mp hh;exact e
  ·intro i y σ H2 hy hh;obtain⟨o,A',C',rfl,eS,hTA,sA,el2⟩:=(hPv _ _ _).mp hh;obtain⟨e,A,B',C,g1,g2,g3,g4,g5⟩:=hT.get hy;obtain rfl:A'=A:=aQ.fun _ _ _ _ hTA g4;have ndA:(A'++B'++C).Nodup:=g3▸nd0;have aeS:=(JV.mp ndA).1;have ndB:=(JV.mp aeS).2.1;have dis:∀b∈B',b∉A':=fun b hb ha=>(JV.mp aeS).2.2 b ha b hb rfl
   have tB:Tr H2 e y B':=Tr.keep (fun b ys hb=>sA b _ (fun z=>by
    obtain⟨zs,ez⟩:=aQ.tR _ _ _ hTA b z
    rw[hb] at ez; cases ez) hb) e y B' (fun b hb ys hh=>sA b _ (dis b hb) hh) g2
   ext;refine⟨y,e,B',rfl,hds e (jx g1),tB,ndB,fun H3 s3=>?_⟩;refine(hPv _ _ _).mpr ⟨_,A'++B',C,rfl,g3,?_,fun b o hb ho=>s3 b o (fun z=>hb (i_ _ z)) (sA b o (fun z=>hb (Mt _ z)) ho),s3 l _ (fun z=>out l (by rw[g3]; exact Mt _ (i_ _ z)) rfl) el2⟩
   have t1:ds.take (i+1)=ds.take i++[e]:=by rw[List.take_add_one,g1]; rfl
   have t2:xs.take (i+1)=xs.take i++[y]:=by rw[List.take_add_one,hy]; rfl
   rw[t1,t2];exact aQ.snoc hTA g2
  ·intro σ H2 hh;obtain⟨o,A',C',rfl,eS,hTA,sA,el2⟩:=(hPv _ _ _).mp hh;have hl:=hT.len;rw[mY,hl,mY] at hTA;rw[aQ.fun _ _ _ _ hTA hT] at sA;exact hD _ _ sA
 obtain⟨R,hR⟩:∃R:St->Hp->Prop,∀σ' H',R σ' H'↔(∃o:Option V,σ'=[some v,o]/\((qI d=false/\BJ S H H'/\∀K',qy K' H' v (.type (UL d)))\/∃(a:Addr)(xs:List V)(S':List Addr),qI d=true/\v=.ref a/\S=a::S'/\BJ S' H H'/\H' a=some (.lst xs)/\xs.length<=1000)):=⟨_,fun _ _=>kO⟩;refine eV.of R (fun σ' H' hh=>?_) fun N hN=>?_
 ·obtain⟨o,rfl,h⟩:=(hR _ _).mp hh;rcases h with⟨hl,sS,ty⟩ | ⟨a,xs,S',hl,rfl,rfl,sS,ea,hx⟩
  ·ext;refine⟨v,d,rfl,ty,_,rfl,?_⟩;rw[hl,bD ⋯]
   exact q H' sS
  ·ext;refine⟨.ref a,.list [],rfl,fun K'=>.lst ea,_,rfl,?_⟩;rw[aL (by rfl)]
   refine⟨.inl ⟨rfl,_,d7.of ea⟩,a,xs,_,rfl,rfl,ea,bC ∅,?_⟩
   have e1:upd H' a (.lst (xs++[V.str "mark"])) a=some (.lst (xs++[V.str "mark"])):=aD;unfold aeb;ext;refine⟨.inl ⟨rfl,_,d7.of e1⟩,a,_,rfl,rfl,e1,?_⟩;refine q _ fun b o hb ho=>?_;have hba:b≠a:=fun z=>hb (z▸jw);rw[aP hba,aP hba];exact sS b o (fun z=>hb (iR _ z)) ho
 ·ext;refine⟨⋯,fun p H1 f1 s1 e1=>⟨v,d,p,rfl,at0.mono s1,e1,?_⟩⟩
  rcases hd with⟨i,rfl⟩ | rfl | ⟨t,rfl,_⟩ | ⟨ds,rfl,hn,hds⟩ | ⟨ds,rfl,hn,hds⟩
  ·rw[bD (by exact fun z=>by cases z)]
   exact hN _ _ ((hR _ _).mpr ⟨_,rfl,.inl ⟨rfl,BJ.of s1,fun K'=>(at0.mono s1).ty⟩⟩)
  ·rw[bD (by exact fun z=>by cases z)]
   exact hN _ _ ((hR _ _).mpr ⟨_,rfl,.inl ⟨rfl,BJ.of s1,fun K'=>(at0.mono s1).ty⟩⟩)
  ·rw[bD (by exact fun z=>by cases z)]
   exact hN _ _ ((hR _ _).mpr ⟨_,rfl,.inl ⟨rfl,BJ.of s1,fun K'=>(at0.mono s1).ty⟩⟩)
  ·rw[aL (by rfl)]
   unfold Tr at ht;obtain⟨a,xs,rfl,ha,hT⟩:=ht;rw[nW];ext
   refine⟨a,xs,rfl,.inr (s1 _ _ ha),fun l fl=>loop ds xs S none _ l _ (s1.trans (aM fl _)) (aF.free s1 fl) aD hT nd hds fun o H' sS=>hN _ _ ((hR _ _).mpr ⟨_,rfl,.inl ⟨rfl,sS,fun K'=>.tup (sS _ _ (fun z=>by
    obtain⟨ys,e⟩:=aQ.tR _ _ _ hT a z
    rw[ha] at e; cases e) ha)⟩⟩)⟩
  ·rw[aL (by rfl)]
   unfold Tr at ht;obtain⟨a,xs,S',rfl,ha,hT,rfl⟩:=ht;rw[nW];ext;have nd':=vX.mp nd;refine⟨a,xs,rfl,.inl (s1 _ _ ha),fun l fl=>loop ds xs S' none _ l _ (s1.trans (aM fl _)) (aF.free s1 fl) aD hT nd'.2 hds fun o H' sS=>hN _ _ ((hR _ _).mpr ⟨_,rfl,.inr ⟨a,xs,S',rfl,rfl,rfl,sS,sS _ _ nd'.1 ha,by rw[hT.len]; exact hn⟩⟩)⟩
variable{aH aJ:Addr}
theorem my{H:Hp}{x:cP}{v:V}(h:At H (gH x) v):∃a b c d,v=.ref a/\H a=some (.tup [.int x.p,.int x.m,.ref b,.int x.a,.int x.e,.ref c,.ref d])/\H b=some (.tup [.int x.lo,.int x.hi])/\At H (.tuple [.int x.u,.int x.d]) (.ref c)/\At H (qT x.cQ) (.ref d):=by
 obtain⟨a,xs,rfl,h1,h2⟩:=bz h;obtain⟨x0,_,rfl,b0,h2⟩:=ak.bf h2;obtain⟨x1,_,rfl,b1,h2⟩:=ak.bf h2;obtain⟨x2,_,rfl,b2,h2⟩:=ak.bf h2;obtain⟨x3,_,rfl,b3,h2⟩:=ak.bf h2;obtain⟨x4,_,rfl,b4,h2⟩:=ak.bf h2;obtain⟨x5,_,rfl,b5,h2⟩:=ak.bf h2;obtain⟨x6,_,rfl,b6,h2⟩:=ak.bf h2;cases ak.jP h2;unfold At at b0 b1 b3 b4;subst b0 b1 b3 b4;obtain⟨b,ys,rfl,g1,g2⟩:=bz b2;obtain⟨c,zs,rfl,_,_⟩:=bz b5;obtain⟨d,ws,rfl,_,_⟩:=bz b6;obtain⟨y0,_,rfl,k0,g2⟩:=ak.bf g2;obtain⟨y1,_,rfl,k1,g2⟩:=ak.bf g2;cases ak.jP g2;unfold At at k0 k1;subst k0 k1;exact⟨a,b,c,d,rfl,h1,g1,b5,b6⟩
def wm(x:cP)(m:Int):cP:={ x with hi:=m }
theorem Eo.wm{x:cP}(h:Eo x){m:Int}(h1:x.lo<=m)(h2:m<=12):Eo (wm x m):=⟨h.p,h.m,⟨h.lo.1,h1⟩,h2,h.a,h.e,h.u,h.d,h.n,h.r⟩
theorem Vi{H:Hp}{x:cP}{m:Int}{a b c d:Addr}(h1:H a=some (.tup [.int x.p,.int x.m,.ref b,.int x.a,.int x.e,.ref c,.ref d]))(h2:H b=some (.tup [.int x.lo,.int m]))(h3:At H (.tuple [.int x.u,.int x.d]) (.ref c))(h4:At H (qT x.cQ) (.ref d)):At H (gH (wm x m)) (.ref a):=
 At.tup h1 (ak.cons (At.int _) (ak.cons (At.int _) (ak.cons (At.tup h2 (ak.cons (At.int _) (ak.cons (At.int _) ak.nil))) (ak.cons (At.int _) (ak.cons (At.int _) (ak.cons h3 (ak.cons h4 ak.nil)))))))
def aem:Sp:=fun vs H Q _=>∃(v:V)(x:cP)(m:Int),vs=[v,.int m]/\At H (gH x) v/\∀p H',aF H H'->At H' (gH (wm x m)) (.ref p)->Q (.ref p) H'
theorem sr:a_ ["post","many","pace","room","hands","late","every","rests","rules"] ["post","many"] (aK oK):=(by walk_at "c")
theorem Gu(F:jc K "with_most" "with_most" oK f fd):bZ P w K mg base iJ (k+1) f fd ["post","many"] aem:=by
 refine F.ok sr (by rintro vs H Q E ⟨v,x,m,rfl,_⟩; rfl) (0:)
 obtain⟨v,x,m,rfl,hv,q⟩:=h;have ND:=sr.nd;refine⟨_,(aq (cJ (pv 0) (bG (K:=K) (n:=7) rfl rfl (aA (aC (i:=2)) (aA (aC (i:=3)) (aA (aC (i:=4)) (aA (aC (i:=5)) (aA (aC (i:=6)) (aA (aC (i:=7)) (aA (aC (i:=8)) bF))))))))) (aG (aZ (aV (aa (pv 2) (aa (pv 3) (aa (aV (aa (bB aW (pv 4) ao (fun _ _=>rfl)) (aa (pv 1) aj))) (aa (pv 5) (aa (pv 6) (aa (pv 7) (aa (pv 8) aj))))))))))),?_⟩
 obtain⟨a,b,c,d,rfl,h1,h2,h3,h4⟩:=my hv;ext;refine⟨a,_,rfl,cB.of h1,rfl,?_⟩;ext;refine Ix.tup h2 (bw (j:=0) rfl) ⟨⋯,fun p2 H2 f2 s2 e2=>⟨⋯,fun p3 H3 f3 s3 e3=>?_⟩⟩
 exact q p3 H3 (s2.trans s3) (Vi e3 (s3 _ _ e2) ((h3.mono s2).mono s3) ((h4.mono s2).mono s3))
def Ks(ds:List (List Int)):PyData:=.list (ds.map Xw)
def st0(x:cP):dW:=⟨0,x.lo,[0,0,0,0,0],0,0,[[0,0,0],[0,0,0],[0,0,0]]⟩
theorem qN(x:cP):iY (st0 x):=⟨rfl,rfl,fun y hy=>by
 have:y=[0,0,0]:=by
  simp only[st0,bT,jW,or_false,or_self] at hy;exact hy
 rw[this]; rfl⟩
def FS(x:cP)(c:Cv)(bd lim:Int)(k:Nat)(ds:List (List Int)):Prop:=ds.length=k/\∀i,i<k->∃p cc,pR (wm x (x.lo+(i:Nat))) c (st0 x) (some bd) lim p cc/\ds[i]?=some (nH (wm x (x.lo+(i:Nat))) c (st0 x) p cc)
theorem FS.snoc{x:cP}{c:Cv}{bd lim:Int}{k p cc:Nat}{ds:List (List Int)}(h:FS x c bd lim k ds)(B:pR (wm x (x.lo+(k:Nat))) c (st0 x) (some bd) lim p cc):FS x c bd lim (k+1) (ds++[nH (wm x (x.lo+(k:Nat))) c (st0 x) p cc]):=by
 refine⟨by rw[c7,h.1]; rfl,fun i hi=>?_⟩
 by_cases z:i<k
 ·obtain⟨p',Ij,b1,b2⟩:=h.2 i z;exact⟨p',Ij,b1,by rw[v8 (by rw[h.1]; exact z)]; exact b2⟩
 ·have e:i=k:=by omega
  subst e;exact⟨p,cc,B,by rw[tE (by rw[h.1]; omega),h.1,tu]; rfl⟩
inductive YF(x:cP)(c:Cv)(bd lim:Int):PyData->Prop
 | kept (k n:Nat) (ds:List (List Int)):FS x c bd lim k ds->x.lo+(k:Nat)<=x.hi->pP (wm x (x.lo+(k:Nat))) c (st0 x) (some bd) lim n->YF x c bd lim (.tuple [.int (x.lo+(k:Nat)),.list ((aR (wm x (x.lo+(k:Nat))) c (st0 x) n).map j9),Ks ds])
 | none (k:Nat) (ds:List (List Int)):FS x c bd lim k ds->x.lo+(k:Nat)=x.hi+1->YF x c bd lim (.tuple [.none,.none,Ks ds])
 | many (k p cc:Nat) (ds:List (List Int)):FS x c bd lim k ds->x.lo+(k:Nat)<=x.hi->vy (wm x (x.lo+(k:Nat))) c (st0 x) (some bd) lim p cc->YF x c bd lim (.str "many")
def Jk(CM CW:Addr):Sp:=fun vs H Q E=>∃(v cv:V)(x:cP)(c:Cv)(bd lim:Int),vs=[v,cv,.int bd,.int lim]/\At H (gH x) v/\At H (Ii c) cv/\Eo x/\Il c/\cY c (c.map (·.1))<=23/\0<=lim/\lim<=900 /\
 (∀d v' S H',YF x c bd lim d->(∃ds,d=.tuple ds)->aF H H'->Tr H' d v' S->S.Nodup->(∀b∈S,H b=none)->Q v' H') /\
 (∀H',YF x c bd lim (.str "many")->aF H H'->E (.ref CM) none H')
theorem CG:a_ ["post","curve","bound","limit","least","most","loads","many","how","shown"] ["post","curve","bound","limit"] (aK yf):=(by walk_at "c")
theorem S9{T:Addr}{tk:Tok}(F:Aj K "fewest" "fewest" yf f fd T 300 tk)(B:Bi mg)(O:Co K mg)(pH:Ct P w K mg base k "with_most" ["post","many"] aem)(lU:Ct P w K mg base k "first_stand" ["post"] Py)(mH:CtF P w K mg base k "opened" ["post","stand","curve","bound","limit"] 300 (xG aH aJ)) :
  bZ P w K mg base (pQ P w) (k+1) f fd ["post","curve","bound","limit"] (Jk aH aJ):=by
 refine F.okE CG (by rintro vs H Q E ⟨v,cv,x,c,bd,lim,rfl,_⟩; rfl) (fun cdv A outer s H vs Q E UW hr h=>?_)
 obtain⟨v,cv,x,c,bd,lim,rfl,a1,a3,hx,hv,hW,hl1,hl2,q1,q2⟩:=h;have ND:=CG.nd;refine⟨_,(aq (cJ (bB aW (pv 0) ao (fun _ _=>rfl)) (bG (K:=K) (n:=2) rfl rfl (aA (aC (i:=4)) (aA (aC (i:=5)) bF)))) (aq (aX (i:=6) (bR aj)) (aq (fZ PassesOwn.leaving rfl (Dr (by rfl) B.range (aa (pv 4) (aa (aO bK (pv 5) ao) aj))) (aC (i:=7)) (aq (cJ (pfe mH.all hr (aa (pf pH hr (aa (pv 0) (aa (pv 7) aj))) (aa (pf lU hr (aa (pv 0) aj)) (aa (pv 1) (aa (pv 2) (aa (pv 3) aj)))))) (bG (K:=K) (n:=2) rfl rfl (aA (aC (i:=8)) (aA (aC (i:=9)) bF)))) (aq (cX (bj gY (pv 8) (uV O.KEPT) (bh _)) (aG (aZ (aV (aa (pv 7) (aa (pv 9) (aa (pv 6) aj)))))) bM) (aG (eQ (gJ (K:=K) rfl PySem.F.plainAttrs_list PySem.F.slot_list_append PySem.F.type_list_append dY (pv 6) (aa (pv 9) aj))))))) (aG (aZ (aV (aa d9 (aa d9 (aa (pv 6) aj))))))))),?_⟩
 obtain⟨ad,Yu,cd,dd,rfl,m1,m2,_,_⟩:=my a1;ext;refine Ix.tup m1 (v:=.ref Yu) rfl ⟨Yu,_,rfl,cB.of m2,rfl,?_⟩;ext;refine⟨fG _,fun L H1 f1 s1 e1=>?_⟩;rw[Ca];ext;have hlo:=hx.lo;have hhi:=hx.hi;obtain⟨Pv,hPv⟩:∃Pv:Nat->St->Hp->Prop,∀i σ H',Pv i σ H'↔(∃(o7 o8 o9:Option V) (ds:List (List Int)) (ys:List V) (S:List Addr),σ=[some (.ref ad),some cv,some (.int bd),some (.int lim),some (.int x.lo),some (.int x.hi),some (.ref L),o7,o8,o9]/\H' L=some (.lst ys)/\SX L H H'/\FS x c bd lim i ds/\aQ H' (ds.map Xw) ys S/\S.Nodup/\L∉S/\∀b∈S,H b=none):=⟨_,fun _ _ _=>kO⟩;refine FK2.of (n:=(x.hi+1-x.lo).toNat) ∅ ∅ rfl Pv ((hPv _ _ _).mpr ⟨_,_,_,[],[],[],rfl,e1,SX.of s1,⟨rfl,fun i hi=>by omega⟩,(by unfold aQ; exact⟨rfl,rfl⟩),Dc,by simp,fun b hb=>by cases hb⟩) ?_ ?_
 ·intro i σ H2 hi hh;obtain⟨o7,o8,o9,ds,ys,S,rfl,e2,sx,hF,hT,nd,nL,fr⟩:=(hPv _ _ _).mp hh;have sH:=SX.same f1 sx;have him:x.lo+(i:Nat)<=x.hi:=by omega
  have KC:=hx.wm (m:=x.lo+(i:Nat)) ∅ ∅
  have hyl:ys.length=i:=by rw[hT.len,bW,hF.1]
  ext;refine⟨_,x,_,rfl,a1.mono sH,fun p3 H3 s3 b3=>⟨_,x,rfl,a1.mono (sH.trans s3),fun u4 H4 s4 b4=>?_⟩⟩;have Ie:=s3.trans s4;refine⟨_,_,_,wm x (x.lo+(i:Nat)),st0 x,c,bd,lim,rfl,b3.mono s4,b4,a3.mono (sH.trans Ie),KC.is,yK KC,qN x,hv,hl1,hl2,fun hW'=>absurd hW ∅,fun _ n D q' l' ys' H5 s5 f5 e5 el5 A5=>?_,fun _ bp bc Bk q' r' H5 s5 f5 e5 er5=>?_,fun _ p' cc M H5 s5 H6 s6=>q2 H6 (.many i p' cc ds hF him M) ((sH.trans Ie).trans (s6 s5))⟩
  ·refine⟨q',_,rfl,cB.of e5,rfl,?_⟩;ext;rw[aL ⋯]
   refine⟨⋯,fun p6 H6 f6 s6 e6=>?_⟩
   have s26:=Ie.trans (s5.trans s6);have sH6:=sH.trans s26;have vf:H2 l'=none:=aF.free Ie f5;have lL:l'≠L:=fun z=>by rw[z,e2] at vf; cases vf
   refine q1 _ _ (l'::L::S) H6 (.kept i n ds hF him D) ⟨_,rfl⟩ sH6 ?_ ?_ ?_
   ·have t1:Tr H6 (.list ((aR (wm x (x.lo+(i:Nat))) c (st0 x) n).map j9)) (.ref l') [l']:=Tr.lst (s6 _ _ el5) (aQ.kE _ _ (qi _) (A5.mono s6));have t2:Tr H6 (Ks ds) (.ref L) (L::S):=Tr.lst (s26 _ _ e2) (hT.mono s26);have t3:=aQ.cons (Tr.int (H:=H6) (x.lo+(i:Nat))) (aQ.cons t1 (aQ.cons t2 aQ.nil));have e:[]++([l']++((L::S)++[]))=l'::L::S:=by simp
    rw[e] at t3;exact Tr.tup e6 t3
   ·refine vX.mpr ⟨fun z=>?_,vX.mpr ⟨nL,nd⟩⟩;rcases bT.mp z with z | z
    ·exact lL z
    ·obtain⟨zs,e⟩:=aQ.tR _ _ _ hT l' z;rw[vf] at e; cases e
   ·intro b hb;rcases bT.mp hb with rfl | hb
    ·exact aF.free sH vf
    ·rcases bT.mp hb with rfl | hb
     ·exact f1
     ·exact fr b hb
  ·refine⟨q',_,rfl,cB.of e5,rfl,?_⟩;ext;rw[bD ⋯]
   have er5:H5 r'=some (.lst ((nH (wm x (x.lo+(i:Nat))) c (st0 x) bp bc).map V.int)):=er5;have R1:=Ie.trans s5;have e5L:=R1 _ _ e2;have vf:H2 r'=none:=aF.free Ie f5;have rL:r'≠L:=fun z=>by rw[z,e2] at vf; cases vf
   refine⟨.inl ⟨rfl,_,d7.of e5L⟩,L,ys,_,rfl,rfl,e5L,bC ∅,?_⟩
   refine(hPv _ _ _).mpr ⟨_,_,_,ds++[nH (wm x (x.lo+(i:Nat))) c (st0 x) bp bc],ys++[.ref r'],S++[r'],rfl,aD,(sx.trans (SX.of R1)).trans SX.upd,hF.snoc Bk,?_,?_,?_,?_⟩
   ·rw[iZ]
    exact((hT.mono R1).snoc (Tr.lst er5 (aQ.kE _ _ (jz _) (bI _)))).Zf e5L (fun z=>by
     rcases lE.mp z with z | z
     ·exact nL z
     ·exact rL (fP.mp z).symm)
   ·rw[JV];refine⟨nd,by simp,fun y hy z hz=>?_⟩
    rw[fP.mp hz];intro e;obtain⟨zs,e'⟩:=aQ.tR _ _ _ hT y hy;rw[e,vf] at e'; cases e'
   ·intro z;rcases lE.mp z with z | z
    ·exact nL z
    ·exact rL (fP.mp z).symm
   ·intro b hb;rcases lE.mp hb with hb | hb
    ·exact fr b hb
    ·rw[fP.mp hb]; exact aF.free sH vf
 ·intro σ H2 hh;obtain⟨o7,o8,o9,ds,ys,S,rfl,e2,sx,hF,hT,nd,nL,fr⟩:=(hPv _ _ _).mp hh;have sH:=SX.same f1 sx;ext;refine⟨⋯,fun p6 H6 f6 s6 e6=>?_⟩
  refine q1 _ _ (L::S) H6 (.none _ ds hF ∅) ⟨_,rfl⟩ (sH.trans s6) ?_ (vX.mpr ⟨nL,nd⟩) (fun b hb=>?_)
  ·have t2:Tr H6 (Ks ds) (.ref L) (L::S):=Tr.lst (s6 _ _ e2) (hT.mono s6);have t3:=aQ.cons (Tr.non (H:=H6)) (aQ.cons Tr.non (aQ.cons t2 aQ.nil));have e:([]:List Addr)++([]++((L::S)++[]))=L::S:=by simp
   rw[e] at t3;exact Tr.tup e6 t3
  ·rcases bT.mp hb with rfl | hb
   ·exact f1
   ·exact fr b hb
variable{bO eN eO dz dw du eG dq aH aJ:Addr}
def VL:Sp:=fun vs H Q _=>∃(v cv:V)(x:cP)(c:Cv)(bd lim:Int),vs=[v,cv,.int bd,.int lim]/\At H (gH x) v/\At H (Ii c) cv/\Eo x/\Il c/\cY c (c.map (·.1))<=23/\0<=lim/\lim<=900 /\
 (∀d v' S H',YF x c bd lim d->aF H H'->Tr H' d v' S->S.Nodup->(∀b∈S,H b=none)->Q v' H')
theorem lZ:a_ ["_law_post","_law_curve_here","_law_bound","_law_limit","_law_found","_law_caught","error"] ["_law_post","_law_curve_here","_law_bound","_law_limit"] (aK jE):=(by walk_at "c")
theorem uY(F:jc K "_law_told_fewest" "_law_told_fewest" jE f fd)(B:Bi mg)(Z:ZM K mg bO eN eO dz dw du eG dq aH aJ)(Ad:CtF P w K mg base k "fewest" ["post","curve","bound","limit"] 300 (Jk aH aJ))(pK:Ct P w K mg base k "_law_refused" ["_law_caught"] (VV aH aJ)):bZ P w K mg base iJ (k+1) f fd ["_law_post","_law_curve_here","_law_bound","_law_limit"] VL:=by
 refine F.ok lZ (by rintro vs H Q E ⟨v,cv,x,c,bd,lim,rfl,_⟩; rfl) (0:)
 obtain⟨v,cv,x,c,bd,lim,rfl,a1,a3,hx,hv,hW,hl1,hl2,q⟩:=h;have ND:=lZ.nd;refine⟨_,(aq (cJ (aV (aa d9 (aa d9 aj))) (bG (K:=K) (n:=2) rfl rfl (aA (aC (i:=4)) (aA (aC (i:=5)) bF)))) (aq (Qp (K:=K) (ie:=6) rfl (J4 (Qo (i:=4) ND (Qm Ad.all hr (aa (pv 0) (aa (pv 1) (aa (pv 2) (aa (pv 3) aj))))))) (fun e=>(aG (aX (i:=5) (pv 6)))) ND Z.vA) (aG (aZ (cM (bj MF (pv 5) d9 (bh _)) (pv 4) (pf pK hr (aa (pv 5) aj))))))),?_⟩
 ext;unfold Vu;ext;refine⟨⋯,fun p0 H0 f0 s0 e0=>⟨p0,_,rfl,cB.of e0,rfl,?_⟩⟩
 ext;refine⟨v,cv,x,c,bd,lim,rfl,a1.mono s0,a3.mono s0,hx,hv,hW,hl1,hl2,fun d v' S H1 hF hd s1 hT nd fr=>?_,fun H1 hF s1=>⟨Z.zN,fun a H3 s3 hX=>?_⟩⟩
 ·simp only[List.set];refine⟨trivial,?_⟩;rw[aL ⋯]
  exact q d v' S H1 hF (s0.trans s1) hT nd fun b hb=>aF.free s0 (fr b hb)
 ·simp only[List.set];ext;refine⟨trivial,?_⟩;rw[bD (by simp)]
  exact⟨a,_,rfl,hX,.inl rfl,fun _ H4 s4=>q _ _ [] H4 hF (s0.trans ((s3 s1).trans s4)) (Tr.str _) Dc (fun b hb=>by cases hb),fun e=>by have z:=Z.rC; rw[<- e,Z.rD] at z; cases z⟩
theorem nJ:a_ ["_law_post","_law_curve_here","_law_bound","_law_limit","_law_loads","_law_least","_law_many","_law_one","_law_found","_law_caught","error"] ["_law_post","_law_curve_here","_law_bound","_law_limit"] (aK jR):=(by walk_at "c")
theorem wg(F:jc K "_law_fewest_due" "_law_fewest_due" jR f fd)(B:Bi mg)(Z:ZM K mg bO eN eO dz dw du eG dq aH aJ)(mH:CtF P w K mg base k "opened" ["post","stand","curve","bound","limit"] 300 (xG aH aJ))(pK:Ct P w K mg base k "_law_refused" ["_law_caught"] (VV aH aJ)):bZ P w K mg base iJ (k+1) f fd ["_law_post","_law_curve_here","_law_bound","_law_limit"] VL:=by
 refine F.ok nJ (by rintro vs H Q E ⟨v,cv,x,c,bd,lim,rfl,_⟩; rfl) (0:)
 obtain⟨v,cv,x,c,bd,lim,rfl,a1,a3,hx,hv,hW,hl1,hl2,q⟩:=h;have ND:=nJ.nd;refine⟨_,(aq (uU (i:=4) (j:=5) rfl ND rfl rfl ⋯ rfl rfl (aa (bR aj) (aa (bB aW (bB aW (pv 0) ao (fun _ _=>rfl)) ao (fun _ _=>rfl)) aj)) (by rfl)) (aq (fZ PassesOwn.never rfl (Dr (by rfl) B.range (aa (pv 5) (aa (aO bK (bB aW (bB aW (pv 0) ao (fun _ _=>rfl)) ao (fun _ _=>rfl)) ao) aj))) (aC (i:=6)) (aq (aX (i:=7) (aO jn (aO jn (cz eX (pv 0) dC (cN ao)) (aV (aa (aV (aa (pv 5) (aa (pv 6) aj))) aj))) (cz eX (pv 0) (cN ao) dC))) (aq (cJ (aV (aa d9 (aa d9 aj))) (bG (K:=K) (n:=2) rfl rfl (aA (aC (i:=8)) (aA (aC (i:=9)) bF)))) (aq (Qp (K:=K) (ie:=10) rfl (J4 (Qo (i:=8) ND (Qm mH.all hr (aa (pv 7) (aa (aV (aa ao (aa (pv 5) (aa (aV (aa ao (aa ao (aa ao (aa ao (aa ao aj)))))) (aa ao (aa ao (aa (aO QC (aV (aa (aV (aa ao (aa ao (aa ao aj)))) aj)) ao) aj))))))) (aa (pv 1) (aa (pv 2) (aa (pv 3) aj)))))))) (fun e=>(aG (aX (i:=9) (pv 10)))) ND Z.vA) (aq (cX (bj qd (pv 9) d9 (bh _)) (aG (aZ (pf pK hr (aa (pv 9) aj)))) bM) (aq (cX (bj gY (bB aW (pv 8) ao (fun _ _=>rfl)) cD (bh _)) (aG (aZ (aV (aa (pv 6) (aa (bB aW (pv 8) ao (fun _ _=>rfl)) (aa (pv 4) aj)))))) bM) (aG (eQ (gJ (K:=K) rfl PySem.F.plainAttrs_list PySem.F.slot_list_append PySem.F.type_list_append dY (pv 4) (aa (bB aW (pv 8) ao (fun _ _=>rfl)) aj)))))))))) (aG (aZ (aV (aa d9 (aa d9 (aa (pv 4) aj)))))))),?_⟩
 obtain⟨ad,Yu,cd,dd,rfl,m1,m2,m3,m4⟩:=my a1;ext;refine⟨fG _,fun L H1 f1 s1 e1=>Ix.tup (s1 _ _ m1) (v:=.ref Yu) rfl (Ix.tup (s1 _ _ m2) (v:=.int x.lo) rfl ⟨_,_,rfl,?_⟩)⟩;rw[Ca];ext;refine Ix.tup (s1 _ _ m1) (v:=.ref Yu) rfl (Ix.tup (s1 _ _ m2) (v:=.int x.hi) rfl ⟨_,_,rfl,rfl,?_⟩);have hlo:=hx.lo;have hhi:=hx.hi;obtain⟨Pv,hPv⟩:∃Pv:Nat->St->Hp->Prop,∀i σ H',Pv i σ H'↔(∃(o6 o7 o8 o9 uv:Option V) (ds:List (List Int)) (ys:List V) (S:List Addr),σ=[some (.ref ad),some cv,some (.int bd),some (.int lim),some (.ref L),some (.int x.lo),o6,o7,o8,o9,uv]/\H' L=some (.lst ys)/\SX L H H'/\FS x c bd lim i ds/\aQ H' (ds.map Xw) ys S/\S.Nodup/\L∉S/\∀b∈S,H b=none):=⟨_,fun _ _ _=>kO⟩;refine FK2.of (n:=(x.hi+1-x.lo).toNat) ∅ ∅ rfl Pv ((hPv _ _ _).mpr ⟨_,_,_,_,_,[],[],[],rfl,e1,SX.of s1,⟨rfl,fun i hi=>by omega⟩,aQ.nil,Dc,by simp,fun b hb=>by cases hb⟩) ?_ ?_
 ·intro i σ H2 hi hh;obtain⟨o6,o7,o8,o9,uv,ds,ys,S,rfl,e2,sx,hF,hT,nd,nL,fr⟩:=(hPv _ _ _).mp hh;have sH:=SX.same f1 sx;have him:x.lo+(i:Nat)<=x.hi:=by omega
  have KC:=hx.wm (m:=x.lo+(i:Nat)) ∅ ∅
  have hyl:ys.length=i:=by rw[hT.len,bW,hF.1]
  ext;refine⟨ad,_,rfl,sH _ _ m1,fun p1 G1 z1 g1=>?_⟩;rw[j_ ⋯] at g1
  refine⟨⋯,fun p2 G2 w2 z2 g2=>⟨⋯,fun p3 G3 w3 z3 g3=>?_⟩⟩
  have Vc:=z2.trans z3;refine⟨p1,p3,_,_,rfl,rfl,Vc _ _ g1,g3,(show 3<=sizeLine by decide),fun p4 G4 z4 g4=>?_⟩
  have Vb:=Vc.trans z4;refine⟨ad,_,rfl,(sH.trans (z1.trans Vb)) _ _ m1,fun p5 G5 z5 g5=>?_⟩;rw[kj ⋯] at g5
  refine⟨p4,p5,_,_,rfl,rfl,z5 _ _ g4,g5,(show 7<=sizeLine by decide),fun p6 G6 z6 g6=>?_⟩
  have zz:=z1.trans (Vb.trans (z5.trans z6));have g2':=(z3.trans (z4.trans (z5.trans z6))) _ _ g2;have b3:At G6 (gH (wm x (x.lo+(i:Nat)))) (.ref p6):=Vi g6 g2' (m3.mono (sH.trans zz)) (m4.mono (sH.trans zz));refine⟨⋯,fun p7 G7 w7 z7 g7=>⟨p7,_,rfl,cB.of g7,rfl,?_⟩⟩
  ext;unfold Vu;ext;refine⟨⋯,fun r1 K1 y1 k1 h1=>⟨⋯,fun r2 K2 y2 k2 h2=>⟨⋯,fun r3 K3 y3 k3 h3=>⟨r3,_,rfl,rfl,h3,fun r4 K4 y4 k4 h4=>⟨⋯,fun r5 K5 y5 k5 h5=>?_⟩⟩⟩⟩⟩
  have b4:At K5 (nY (st0 x)) (.ref r5):=At.tup h5 (ak.cons (At.int _) (ak.cons (At.int _) (ak.cons (At.tup ((k2.trans (k3.trans (k4.trans k5))) _ _ h1) (bI [0,0,0,0,0])) (ak.cons (At.int _) (ak.cons (At.int _) (ak.cons (At.tup (k5 _ _ h4) (by
   have t:At K5 (jD [0,0,0]) (.ref r2):=At.tup ((k3.trans (k4.trans k5)) _ _ h2) (bI [0,0,0])
   exact ak.cons t (ak.cons t (ak.cons t ak.nil)))) ak.nil))))))
  have z6K:=z7.trans (k1.trans (k2.trans (k3.trans (k4.trans k5))));have Ie:=zz.trans z6K;refine⟨_,_,_,wm x (x.lo+(i:Nat)),st0 x,c,bd,lim,rfl,b3.mono z6K,b4,a3.mono (sH.trans Ie),KC.is,yK KC,qN x,hv,hl1,hl2,fun hW'=>absurd hW ∅,fun _ n D q' l' ys' H5 s5 f5 e5 el5 A5=>⟨trivial,?_⟩,fun _ bp bc Bk q' r' H5 s5 f5 e5 er5=>⟨trivial,?_⟩,fun _ p' cc M H5 s5=>⟨Z.zN,fun a H6 s6 hX=>?_⟩⟩
  ·rw[bD ⋯]
   refine Ix.tup e5 (v:=.str "kept") rfl ?_;simp only[F_];refine⟨_,rfl,?_⟩;rw[aL ⋯]
   refine Ix.tup e5 (v:=.ref l') rfl ⟨⋯,fun p6' H6 f6 s6 e6=>?_⟩
   have s26:=Ie.trans (s5.trans s6);have sH6:=sH.trans s26;have vf:H2 l'=none:=aF.free Ie f5;have lL:l'≠L:=fun z=>by rw[z,e2] at vf; cases vf
   refine q _ _ (l'::L::S) H6 (.kept i n ds hF him D) sH6 ?_ ?_ ?_
   ·have t1:Tr H6 (.list ((aR (wm x (x.lo+(i:Nat))) c (st0 x) n).map j9)) (.ref l') [l']:=Tr.lst (s6 _ _ el5) (aQ.kE _ _ (qi _) (A5.mono s6));have t2:Tr H6 (Ks ds) (.ref L) (L::S):=Tr.lst (s26 _ _ e2) (hT.mono s26);have t3:=aQ.cons (Tr.int (H:=H6) (x.lo+(i:Nat))) (aQ.cons t1 (aQ.cons t2 aQ.nil));have e:[]++([l']++((L::S)++[]))=l'::L::S:=by simp
    rw[e] at t3;exact Tr.tup e6 t3
   ·refine vX.mpr ⟨fun z=>?_,vX.mpr ⟨nL,nd⟩⟩;rcases bT.mp z with z | z
    ·exact lL z
    ·obtain⟨zs,e⟩:=aQ.tR _ _ _ hT l' z;rw[vf] at e; cases e
   ·intro b hb;rcases bT.mp hb with rfl | hb
    ·exact aF.free sH vf
    ·rcases bT.mp hb with rfl | hb
     ·exact f1
     ·exact fr b hb
  ·rw[bD ⋯]
   refine Ix.tup e5 (v:=.str "broken") rfl ?_;simp only[F_];refine⟨_,rfl,?_⟩;rw[bD ⋯]
   have er5:H5 r'=some (.lst ((nH (wm x (x.lo+(i:Nat))) c (st0 x) bp bc).map V.int)):=er5;have R1:=Ie.trans s5;have e5L:=R1 _ _ e2;have vf:H2 r'=none:=aF.free Ie f5;have rL:r'≠L:=fun z=>by rw[z,e2] at vf; cases vf
   refine⟨.inl ⟨rfl,_,d7.of e5L⟩,Ix.tup e5 (v:=.ref r') rfl ⟨L,ys,_,rfl,rfl,e5L,bC ∅,?_⟩⟩
   refine(hPv _ _ _).mpr ⟨_,_,_,_,_,ds++[nH (wm x (x.lo+(i:Nat))) c (st0 x) bp bc],ys++[.ref r'],S++[r'],rfl,aD,(sx.trans (SX.of R1)).trans SX.upd,hF.snoc Bk,?_,?_,?_,?_⟩
   ·rw[iZ]
    exact((hT.mono R1).snoc (Tr.lst er5 (aQ.kE _ _ (jz _) (bI _)))).Zf e5L (fun z=>by
     rcases lE.mp z with z | z
     ·exact nL z
     ·exact rL (fP.mp z).symm)
   ·rw[JV];refine⟨nd,by simp,fun y hy z hz=>?_⟩
    rw[fP.mp hz];intro e;obtain⟨zs,e'⟩:=aQ.tR _ _ _ hT y hy;rw[e,vf] at e'; cases e'
   ·intro z;rcases lE.mp z with z | z
    ·exact nL z
    ·exact rL (fP.mp z).symm
   ·intro b hb;rcases lE.mp hb with hb | hb
    ·exact fr b hb
    ·rw[fP.mp hb]; exact aF.free sH vf
  ·simp only[List.set];ext;refine⟨trivial,?_⟩;rw[aL (by simp)]
   exact⟨a,_,rfl,hX,.inl rfl,fun _ H7 s7=>q _ _ [] H7 (.many i p' cc ds hF him M) (sH.trans (Ie.trans ((s6 s5).trans s7))) (Tr.str _) Dc (fun b hb=>by cases hb),fun e=>by have z:=Z.rC; rw[<- e,Z.rD] at z; cases z⟩
 ·intro σ H2 hh;obtain⟨o6,o7,o8,o9,uv,ds,ys,S,rfl,e2,sx,hF,hT,nd,nL,fr⟩:=(hPv _ _ _).mp hh;have sH:=SX.same f1 sx;ext;refine⟨⋯,fun p6 H6 f6 s6 e6=>?_⟩
  refine q _ _ (L::S) H6 (.none _ ds hF ∅) (sH.trans s6) ?_ (vX.mpr ⟨nL,nd⟩) (fun b hb=>?_)
  ·have t2:Tr H6 (Ks ds) (.ref L) (L::S):=Tr.lst (s6 _ _ e2) (hT.mono s6);have t3:=aQ.cons (Tr.non (H:=H6)) (aQ.cons Tr.non (aQ.cons t2 aQ.nil));have e:([]:List Addr)++([]++((L::S)++[]))=L::S:=by simp
   rw[e] at t3;exact Tr.tup e6 t3
  ·rcases bT.mp hb with rfl | hb
   ·exact f1
   ·exact fr b hb
theorem lock{p:Prop}(h:p):p:=h
theorem eV.open{a b:TS}{D:Ends}{σ:St}{H:Hp}(h:a { D with nx:=b D } σ H):eV a b D σ H:=h
def FQ:Sp:=fun vs H Q _=>∃(v u:V)(x:cP)(st:dW)(come:Int),vs=[v,u,.int come,.int 12]/\At H (gH x) v/\At H (nY st) u/\Eo x/\O6 st /\
 ∀p u' H',aF H H'->At H' (nY (iw x st come)) u'->H' p=some (.tup [u',.int (fK x st come),.int (come-bU x st come),.int (mK x st come 12)])->Q (.ref p) H'
theorem Cz:a_ ["_law_post","_law_stand","_law_come","_law_free","_law_pace","_law_room","_law_hands","_law_late","_law_every","_law_rests","_law_rules_here","_law_wait","_law_ready","_law_called","_law_since","_law_rest","_law_seen","_law_line","_law_here","_law_done","_law_newest","_law_change","_law_there","_law_k","_law_last"] ["_law_post","_law_stand","_law_come","_law_free"] (aK ye):=(by walk_at "c")
theorem S8(F:jc K "_law_beat" "_law_beat" ye f fd)(B:Bi mg)(Yp:Ct P w K mg base k "_law_wish" ["_law_post","_law_hands","_law_newest"] Pq):bZ P w K mg base iJ (k+1) f fd ["_law_post","_law_stand","_law_come","_law_free"] FQ:=by
 refine F.ok Cz (by rintro vs H Q E ⟨v,u,x,st,come,rfl,_⟩; rfl) (0:)
 obtain⟨pA,sA,x,st,come,rfl,a1,a2,hx,hs,q⟩:=h;have ND:=Cz.nd;refine⟨_,(aq (cJ (pv 0) (bG (K:=K) (n:=7) rfl rfl (aA (aC (i:=4)) (aA (aC (i:=5)) (aA (aC (i:=6)) (aA (aC (i:=7)) (aA (aC (i:=8)) (aA (aC (i:=9)) (aA (aC (i:=10)) bF))))))))) (aq (cJ (pv 1) (bG (K:=K) (n:=6) rfl rfl (aA (aC (i:=11)) (aA (aC (i:=12)) (aA (aC (i:=13)) (aA (aC (i:=14)) (aA (aC (i:=15)) (aA (aC (i:=16)) bF)))))))) (aq (cJ (aV (aa (aO bK (pv 12) (bB aW (pv 13) ao (fun _ _=>rfl))) (aa (aO uX (pt (ql) B.list iW (aa (cz eX (pv 13) (cN ao) dC) aj)) (bR (aa ao aj))) aj))) (bG (K:=K) (n:=2) rfl rfl (aA (aC (i:=12)) (aA (aC (i:=17)) bF)))) (aq (aX (i:=18) (aO bK (pv 11) (pb (dN rfl) B.min gO (aa (pv 2) (aa (pb (gG rfl) B.max jG (aa (aO dX (pv 5) (pv 11)) (aa ao aj))) aj))))) (aq (aX (i:=19) (pb (dN rfl) B.min gO (aa (pv 18) (aa (aO gK (pv 12) (pv 4)) aj)))) (aq (aX (i:=20) (aO uX (bR (aa (aV (aa (pv 2) (aa (pv 19) (aa (aO dX (pv 18) (pv 19)) aj)))) aj)) (pt (ql) B.list iW (aa (pv 16) aj)))) (aq (aX (i:=21) ao) (aq (cX (PW.pt (Gn (bj QD (aO bK (pv 14) ao) (pv 8) (bh _)) (wN (bj gY (pv 15) ao (bh _))))) (aq (aX (i:=22) (aO bK (pv 12) (pb (qj rfl) B.sum HH (aa (pv 17) aj)))) (aG (aX (i:=21) (pb (dN rfl) B.min gO (aa (aO dX (pf Yp hr (aa (pv 0) (aa (pv 22) (aa (pv 20) aj)))) (pv 22)) (aa (pv 3) aj)))))) bM) (aq (cX (bj jy (pv 21) ao (bh _)) (aG (cJ (aO bK (bB aW (pv 17) (pv 7) (fun _ _=>rfl)) (pv 21)) (yN (pv 17) (pv 7) set_list))) bM) (aq (fZ PassesOwn.never rfl (jO (by rfl) B.range (aa (pb (gG rfl) B.max jG (aa ao (aa (aO dX ao (pv 21)) aj))) aj)) (aC (i:=23)) (aq (ph (i:=24) ND rfl (by walk_at "o") (nt:=1) (N':=["_law_place","_law_line"]) (js:=[17]) rfl (jO (by rfl) B.range (aa ao aj)) jH.of (fun fp s' H'=>(aC (i:=0) (by show List.Nodup (["_law_place","_law_line"]:List Str); decide) rfl (.inl (h_ rfl)) (.inr (h_ rfl)))) (fun fp s' H'=>wY (bj jy (bB aW (pv 1) (pv 0) (fun _ _=>rfl)) ao (bh _))) (fun fp s' H'=>(pv 0))) (aG (cX (bj (Gr hr.units) (pv 24) (bR aj) (bh _)) (aG (cJ (aO dX (bB aW (pv 17) (bB aW (pv 24) (Ds uy ao) (fun _ _=>rfl)) (fun _ _=>rfl)) ao) (yN (pv 17) (bB aW (pv 24) (Ds uy ao) (fun _ _=>rfl)) set_list))) (aG (aX (i:=12) (aO dX (pv 12) ao))))))) (aq (aX (i:=15) (cM (bj WQ (pv 21) ao (bh _)) (bB aW (pv 9) (pt (mG) B.int vq (aa (eY tK (pv 21) ao (bh _)) aj)) (fun _ _=>rfl)) (pb (gG rfl) B.max jG (aa ao (aa (aO dX (pv 15) ao) aj))))) (aq (aX (i:=14) (cM (bj QD (aO bK (pv 14) ao) (pv 8) (bh _)) ao (aO bK (pv 14) ao))) (aG (aZ (aV (aa (aV (aa (aO dX (pv 18) (pv 19)) (aa (pv 12) (aa (pt (dZ) B.tuple dG (aa (pv 17) aj)) (aa (pv 14) (aa (pv 15) (aa (pt (dZ) B.tuple dG (aa (cz rZ (pv 20) dC (cN ao)) aj)) aj))))))) (aa (pv 19) (aa (aO dX (aO bK (pv 11) (pv 2)) (pv 18)) (aa (pv 21) aj))))))))))))))))))),?_⟩
 obtain⟨pa,pb,pc,pd,rfl,p1,p2,p3,p4⟩:=m5 a1;obtain⟨sa,sb,sc,rfl,g1,g2,g3⟩:=iu a2;simp only[Jo,PL 16,PL 15,PL 18,PL 19];generalize hb:eV _ _=b;revert b;refine lock ?_;intro b hb;ext;refine⟨pa,_,rfl,cB.of p1,rfl,?_⟩;ext;refine⟨sa,_,rfl,cB.of g1,rfl,?_⟩;ext;have hc5:=hs.is.c;have hxp:=hx.p
 have gc0:Ik (st.cs.map V.int) 0=some (.int (st.cs.getD 0 0)):=by
  obtain⟨y0,y1,y2,y3,y4,ey⟩:=aah hc5;rw[ey]; rfl
 refine Ix.tup g2 (v:=.int (st.cs.getD 0 0)) gc0 ⟨_,_,rfl,rfl,sb,_,rfl,g2,fun q1 H1 s1 e1=>⟨q1,_,rfl,e1,fun l2 f2=>⟨⋯,fun q3 H3 f3 s3 e3=>?_⟩⟩⟩
 rw[kj ⋯] at s3
 have s2:=aM f2 (HO.lst ((st.cs.map V.int).drop (Int.toNat 1)));refine⟨l2,q3,_,_,rfl,rfl,s3 _ _ aD,e3,by simp[hc5]; decide,fun pl fl=>?_⟩
 have pY:aF H H3:=s1.trans (s2.trans s3);have fl':H pl=none:=pY.free fl;have el:(st.cs.map V.int).drop (Int.toNat 1)++[V.int 0]=(st.cs.drop 1++[0]).map V.int:=by simp
 rw[el];have s4:aF H (upd H3 pl (HO.lst ((st.cs.drop 1++[0]).map V.int))):=pY.trans (aM fl _);have e4:upd H3 pl (HO.lst ((st.cs.drop 1++[0]).map V.int)) pl=some (.lst ((st.cs.drop 1++[0]).map V.int)):=aD;generalize upd H3 pl (HO.lst ((st.cs.drop 1++[0]).map V.int))=H4 at s4 e4 ⊢;refine⟨⋯,fun q5 H5 f5 s5 e5=>⟨q5,_,rfl,cB.of e5,rfl,?_⟩⟩
 have s45:=s4.trans s5;have e45:=s5 _ _ e4;clear e1 e3 f2 f3 s1 s2 s3 pY e4 el;ext;subst hb;refine eV.open ?_;generalize hb:eV _ _=b;revert b;refine lock ?_;intro b hb;ext;subst hb;refine eV.open ?_;generalize hb:eV _ _=b;revert b;refine lock ?_;intro b hb;ext;refine⟨.inr ∅,?_⟩
 have ert:(st.r+st.cs.getD 0 0)=cR st:=rfl;have etk:(if(if 0>x.m-st.w then 0 else x.m-st.w)<come then(if 0>x.m-st.w then 0 else x.m-st.w) else come)=bU x st come:=rfl
 rw[ert,etk];have edn:(if cR st*x.p<st.w+bU x st come then cR st*x.p else st.w+bU x st come)=fK x st come:=rfl
 rw[edn];obtain⟨_,us,esc,gu,au⟩:=bz g3;cases esc;have lus:us.length=3:=by rw[au.length,bW,hs.is.u]
 refine⟨⋯,fun q6 H6 f6 s6 e6=>⟨⋯,fun q7 H7 f7 s7 e7=>aad e7 ((s45.trans (s6.trans s7)) _ _ gu) (by rw[lus]; exact(by decide:4<=sizeLine)) fun pn H8 s8 e8=>?_⟩⟩
 have s58:=s6.trans (s7.trans s8);have s48:=s45.trans s58;have e48:=s58 _ _ e45
 replace e8:H8 pn=some (.lst (V.ref q6::us)):=e8
 have aN:ak H8 ((cO x st come).map jD) (V.ref q6::us):=ak.cons (At.tup ((s7.trans s8) _ _ e6) (bI [come,fK x st come,st.w+bU x st come-fK x st come])) (au.mono s48)
 have hN:lW (cO x st come):=⟨by show st.us.length+1=4; rw[hs.is.u],fun y hy=>by
  rcases bT.mp hy with z | z
  ·rw[z]; rfl
  ·exact hs.is.l y z⟩
 have npl:pn≠pl:=fun z=>by
  rw[z,e48] at e8;have:=jF List.length (HO.lst.inj (Option.some.inj e8));rw[bW,jU,lus] at this;simp[hc5] at this
 clear e6 e7 f6 f7 s6 s7 s8 e5 f5 s5 e45;have hml:(st.cs.drop 1++[0]).length=5:=by simp[hc5]
 have hmn:∀y∈st.cs.drop 1++[0],0<=y:=Kp hs.cn;have hrn:=yp hc5 hs.r hs.cn;subst hb;refine eV.of (fun σ' H'=>aF H8 H'/\∃o:Option V,σ'=[some (V.ref pa),some (V.ref sa),some (V.int come),some (V.int 12),some (V.int x.p),some (V.int x.m),some (V.ref pb),some (V.int ↑x.a),some (V.int x.e),some (V.ref pc),some (V.ref pd),some (V.int st.w),some (V.int (cR st)),some (V.ref sb),some (V.int st.s),some (V.int st.t),some (V.ref sc),some (V.ref pl),some (V.int (st.w+bU x st come)),some (V.int (fK x st come)),some (V.ref pn),some (V.int (mK x st come 12)),o,none,none]) ?_ ?_
 rotate_left 1
 ·intro N vd;ext;by_cases c1:x.e<=st.s+1
  ·rw[aL (ju c1)];by_cases c2:st.t=0
   ·rw[aL (ju c2)];refine⟨pl,_,rfl,.inl e48,.ref pa,pn,_,x,cO x st come,_,rfl,a1.mono s48,e8,aN,hx,hN,fun H9 s9=>⟨_,_,rfl,rfl,vd _ _ ⟨s9,some (V.int (cR st+(st.cs.drop 1++[0]).sum)),?_⟩⟩⟩
    have e:mK x st come 12=(if 12<iK x.cQ x.lo x.hi (cR st+(st.cs.drop 1++[0]).sum) (cO x st come)-(cR st+(st.cs.drop 1++[0]).sum) then 12 else iK x.cQ x.lo x.hi (cR st+(st.cs.drop 1++[0]).sum) (cO x st come)-(cR st+(st.cs.drop 1++[0]).sum)):=by
     have hl:il x.e st.s st.t=true:=by unfold il; rw[bD ∅]; exact ju c2
     unfold mK;rw[aL hl]; rfl
    rw[e]
   ·rw[bD (by simpa using c2)]
    have e:mK x st come 12=0:=by
     have hl:il x.e st.s st.t=false:=by unfold il; rw[bD ∅]; exact jL c2
     unfold mK;rw[hl,bD ⋯]
    rw[e] at vd;exact vd _ _ ⟨aF.refl _,_,rfl⟩
  ·rw[bD (by simpa using c1)]
   have e:mK x st come 12=0:=by
    have hl:il x.e st.s st.t=false:=by unfold il; rw[aL ∅]
    unfold mK;rw[hl,bD ⋯]
   rw[e] at vd;exact vd _ _ ⟨aF.refl _,_,rfl⟩
 rintro σ' H9 ⟨s89,o,rfl⟩
 have hbd:0<=st.r+st.cs.sum+mK x st come 12:=by
  have h0:=Fy _ hs.cn;have h1:=hs.r;unfold mK;rw[jA hc5];split
  ·unfold uf
   have h2:0<=iK x.cQ x.lo x.hi (st.r+st.cs.sum) (cO x st come):=by
    have h3:=hx.lo;unfold iK;simp only
    repeat' split <;> try omega
   split <;> omega
  ·omega
 have hcx:iw x st come=dD x (dR x st come) (mK x st come 12):=rfl;rw[hcx] at q;generalize mK x st come 12=ch at q hbd ⊢;have e9:=s89 _ _ e48;have s49:=s48.trans s89;refine eV.of (fun σ' H'=>σ'=[some (V.ref pa),some (V.ref sa),some (V.int come),some (V.int 12),some (V.int x.p),some (V.int x.m),some (V.ref pb),some (V.int ↑x.a),some (V.int x.e),some (V.ref pc),some (V.ref pd),some (V.int st.w),some (V.int (cR st)),some (V.ref sb),some (V.int st.s),some (V.int st.t),some (V.ref sc),some (V.ref pl),some (V.int (st.w+bU x st come)),some (V.int (fK x st come)),some (V.ref pn),some (V.int ch),o,none,none]/\H' pl=some (.lst ((if 0<ch then(st.cs.drop 1++[0]).set x.a ((st.cs.drop 1++[0]).getD x.a 0+ch) else st.cs.drop 1++[0]).map V.int))/\SX pl H H'/\SX pl H9 H') ?_ ?_
 rotate_left 1
 ·intro N vd;ext;have ha:=hx.a;by_cases c1:0<ch
  ·rw[aL (ju c1)];rw[aL c1] at vd;refine Ix.lst e9 (v:=.int ((st.cs.drop 1++[0]).getD x.a 0)) (bw (by rw[g_,gm ∅,fD,gm ∅]; rfl)) ⟨_,_,rfl,rfl,pl,_,_,x.a,rfl,rfl,e9,wV (by rw[bW]; omega),?_⟩
   refine vd _ _ ⟨rfl,?_,(SX.of s49).trans SX.upd,SX.upd⟩;rw[aD,List.map_set]
  ·rw[bD (by simpa using c1)]
   rw[bD c1] at vd;exact vd _ _ ⟨rfl,e9,SX.of s49,SX.refl _ _⟩
 rintro σ' Am ⟨rfl,e10,x10,y10⟩
 obtain⟨hm,hm0,hmS,hmE⟩:∃hm:Nat->List Int×Int,hm 0=(if 0<ch then(st.cs.drop 1++[0]).set x.a ((st.cs.drop 1++[0]).getD x.a 0+ch) else st.cs.drop 1++[0],0)/\(¬0<ch->∀i:Nat,hm i=bx (st.cs.drop 1++[0]) i)/\(0<ch->∀i,hm i=hm 0):=by
  by_cases c1:0<ch
  ·exact⟨fun _=>((st.cs.drop 1++[0]).set x.a ((st.cs.drop 1++[0]).getD x.a 0+ch),0),by rw[aL c1],fun z=>absurd c1 z,fun _ _=>rfl⟩
  ·exact⟨fun i=>bx (st.cs.drop 1++[0]) i,by rw[bD c1]; exact vQ _ hmn,fun _ _=>rfl,fun z=>absurd z c1⟩
 obtain⟨n,hn,akU⟩:∃n:Nat,(if 0-ch>0 then 0-ch else 0)=(n:Int)/\n<=24:=⟨(if 0-ch>0 then 0-ch else 0).toNat,by split <;> omega,by have:=hs.sm; split <;> omega⟩
 have ahi:Am pn=some (.lst (V.ref q6::us)):=y10.get npl (s89 _ _ e8);have aiv:ak (hid pl Am) ((cO x st come).map jD) (V.ref q6::us):=(ak.pG e9 _ _ (xu _) (aN.mono s89)).mono y10;ext;obtain⟨Pv,hPv⟩:∃Pv:Nat->St->Hp->Prop,∀i σ H',Pv i σ H'↔(∃(o1 o2:Option V),σ=[some (V.ref pa),some (V.ref sa),some (V.int come),some (V.int 12),some (V.int x.p),some (V.int x.m),some (V.ref pb),some (V.int ↑x.a),some (V.int x.e),some (V.ref pc),some (V.ref pd),some (V.int st.w),some (V.int (cR st-(hm i).2)),some (V.ref sb),some (V.int st.s),some (V.int st.t),some (V.ref sc),some (V.ref pl),some (V.int (st.w+bU x st come)),some (V.int (fK x st come)),some (V.ref pn),some (V.int ch),o,o1,o2]/\H' pl=some (.lst ((hm i).1.map V.int))/\SX pl Am H'):=⟨_,fun _ _ _=>kO⟩;refine abu (n:=n) (fun R hR=>?_) ∅ Pv ((hPv _ _ _).mpr ⟨_,_,by rw[hm0,JD],by rw[hm0]; exact e10,SX.refl _ _⟩) ?_ ?_
 ·ext;rw[hn]; exact hR
 ·intro i σ wJ hi acL;obtain⟨o1,o2,rfl,Ih,y11⟩:=(hPv _ _ _).mp acL;have hneg:¬0<ch:=fun z=>by rw[bD ∅] at hn; omega
  rw[hmS hneg i] at Ih ⊢;obtain⟨nA,nB⟩:=DQ (st.cs.drop 1++[0]) (i:Int);have hgl:(bx (st.cs.drop 1++[0]) (i:Int)).1.length=5:=by rw[m9]; exact hml
  rw[hml] at nA nB;have ei1:((i+1:Nat):Int)=(i:Int)+1:=by omega
  generalize hG:bx (st.cs.drop 1++[0]) (i:Int)=G at Ih nA nB hgl ⊢;obtain⟨L,m⟩:=G;simp only at Ih nA nB hgl ⊢;ext;refine aaz (n:=5) (fun j=>decide (0<L.getD j 0)) (fun j=>V.int (0+(j:Nat))) (fun R hR=>hR) ⋯ (fun j H' hj s' R hR=>?_) (fun j H' hj hk s' R hR=>?_) (fun acc H12 s12 acS h12=>?_)
  ·show O_ _ [some _,some (.ref pl)] H' R;ext;rw[Int.zero_add];refine Ix.lst (s' _ _ Ih) (v:=.int (L.getD j 0)) (bw (by rw[g_,gm ∅,fD,gm ∅]; rfl)) ?_
   ext;exact hR
  ·show xx 0 [some _,some (.ref pl)] H' R;ext;exact hR
  ·have Ra:=s12 _ _ Ih;have eI:((List.range 5).filter fun j=>decide (0<L.getD j 0)).map (fun j=>V.int (0+(j:Nat)))=(((List.range 5).filter fun j=>decide (0<L.getD j 0)).map (fun j=>(0:Int)+(j:Nat))).map V.int:=by rw[CQ]; rfl
   have z:=u_ (((List.range 5).filter fun j=>decide (0<L.getD j 0)).map (fun j=>(0:Int)+(j:Nat)));refine⟨⋯,fun p13 YD f13 pY U4=>⟨.list ((((List.range 5).filter fun j=>decide (0<L.getD j 0)).map (fun j=>(0:Int)+(j:Nat))).map .int),.list [],At.lst (by rw[<- eI]; exact pY _ _ h12) (bI _),At.lst U4 ak.nil,z.1,rfl,z.2.1,rfl,z.2.2,?_⟩⟩
   have aes:=s12.trans pY;have X_:=pY _ _ Ra;have h13:=pY _ _ h12;rcases QS (fun j=>decide (0<L.getD j 0)) (fun j=>V.int (0+(j:Nat))) 5 with⟨l1,l2⟩ | ⟨j,ini,j5,hj,hjk,hl⟩
   ·have en:((List.range 5).filter fun j=>decide (0<L.getD j 0)).map (fun j=>(0:Int)+(j:Nat))=[]:=by
     have:=List.map_eq_nil_iff.mp l1;rw[this]; rfl
    rw[en];have eq:PyData.eqv (.list (([]:List Int).map .int)) (.list [])=true:=rfl;rw[eq,bD ⋯]
    have hB:=nB fun k hk=>by have:=l2 k hk; simpa using this
    rw[show cR st-m-1=cR st-(m+1) by omega]
    refine(hPv _ _ _).mpr ?_;rw[hmS hneg (i+1),ei1,hB];exact⟨_,_,rfl,X_,y11.trans (SX.of aes)⟩
   ·have hA:=nA j j5 (by simpa using hj) fun k k1 k2=>by have:=hjk k k1 k2; simpa using this
    have eq:PyData.eqv (.list ((((List.range 5).filter fun j=>decide (0<L.getD j 0)).map (fun j=>(0:Int)+(j:Nat))).map .int)) (.list [])=false:=by
     cases hz:((List.range 5).filter fun j=>decide (0<L.getD j 0)).map (fun j=>(0:Int)+(j:Nat)) with
     | nil=>
      rw[hz] at eI;rw[eI] at hl;simp at hl
     | cons a b=>rfl
    rw[eq,aL ⋯]
    rw[hl] at h13;rw[Int.zero_add] at h13;refine Ix.lst h13 (v:=.int (j:Nat)) (Ah _ _) (Ix.lst X_ (v:=.int (L.getD j 0)) (bw (by rw[g_,gm ∅,fD,gm ∅]; rfl)) ⟨_,_,rfl,rfl,Ix.lst h13 (v:=.int (j:Nat)) (Ah _ _) ⟨pl,_,_,j,rfl,rfl,X_,wV (by rw[bW]; omega),?_⟩⟩)
    refine(hPv _ _ _).mpr ?_;rw[hmS hneg (i+1),ei1,hA];refine⟨_,_,rfl,?_,(y11.trans (SX.of aes)).trans SX.upd⟩;rw[aD,List.map_set]
 intro σ wJ acL;obtain⟨o1,o2,rfl,Ih,y11⟩:=(hPv _ _ _).mp acL;dsimp only;have hfin:(dD x (dR x st come) ch).r=cR st-(hm n).2/\(dD x (dR x st come) ch).cs=(hm n).1/\(dD x (dR x st come) ch).t=(if ch≠0 then(if ch<0 then x.d else x.u) else(if st.t-1>0 then st.t-1 else 0)) /\
   (dD x (dR x st come) ch).w=st.w+bU x st come-fK x st come/\(dD x (dR x st come) ch).s=mO x.e st.s/\(dD x (dR x st come) ch).us=(cO x st come).take 3:=by
  have hW:=xq (x:=x) (st:=dR x st come) (ch:=ch) hx.a hrn hml hmn (by show 0<=cR st+(st.cs.drop 1++[0]).sum+ch; rw[jA hc5]; exact hbd)
  refine⟨?_,?_,?_,hW.w,hW.s,hW.u⟩
  ·unfold dD;by_cases c0:ch=0
   ·rw[aL c0];rw[c0] at hn;have:n=0:=by simpa using hn.symm
    rw[this,hm0,JD]; rfl
   ·rw[bD c0];by_cases c1:0<ch
    ·rw[aL c1,hmE c1 n,hm0,JD]; rfl
    ·rw[bD c1,hmS c1 n];rw[aL ∅] at hn
     rw[show -ch=(n:Int) by omega]; rfl
  ·unfold dD;by_cases c0:ch=0
   ·rw[aL c0];have hn':=hn;rw[c0] at hn';have:n=0:=by simpa using hn'.symm
    rw[this,hm0,bD ∅]; rfl
   ·rw[bD c0];by_cases c1:0<ch
    ·rw[aL c1,hmE c1 n,hm0,aL c1];exact(ab2 (l:=st.cs.drop 1++[0]) (by rw[hml]; have:=hx.a; omega)).symm
    ·rw[bD c1,hmS c1 n];rw[aL ∅] at hn
     rw[show -ch=(n:Int) by omega]; rfl
  ·rw[hW.t];show(if ch=0 then(if 0>st.t-1 then 0 else st.t-1) else if 0<ch then x.u else x.d)=_
   repeat' split <;> try omega
 obtain⟨k1,k2,k3,k4,k5,k6⟩:=hfin;generalize hnx:dD x (dR x st come) ch=nx at q k1 k2 k3 k4 k5 k6;rw[<- k1];rw[<- k2] at Ih;have x11:aF H wJ:=SX.same fl' (x10.trans y11);refine eV.of (fun σ' H'=>wJ=H'/\σ'=[some (V.ref pa),some (V.ref sa),some (V.int come),some (V.int 12),some (V.int x.p),some (V.int x.m),some (V.ref pb),some (V.int ↑x.a),some (V.int x.e),some (V.ref pc),some (V.ref pd),some (V.int st.w),some (V.int nx.r),some (V.ref sb),some (V.int st.s),some (V.int nx.t),some (V.ref sc),some (V.ref pl),some (V.int (st.w+bU x st come)),some (V.int (fK x st come)),some (V.ref pn),some (V.int ch),o,o1,o2]) ?_ ?_
 rotate_left 1
 ·intro N vd;ext;by_cases c1:ch=0
  ·rw[bD (by simpa using c1)]
   rw[bD (show ¬ch≠0 from fun z=>z c1)] at k3;rw[k3] at vd;exact vd _ _ ⟨rfl,rfl⟩
  ·rw[aL (by simpa using c1)]
   rw[aL c1] at k3;by_cases c2:ch<0
   ·rw[aL (ju c2)];rw[aL c2] at k3;rw[k3] at vd;exact Ix.tup (x11 _ _ p3) (v:=.int x.d) rfl (vd _ _ ⟨rfl,rfl⟩)
   ·rw[bD (by simpa using c2)]
    rw[bD c2] at k3;rw[k3] at vd;exact Ix.tup (x11 _ _ p3) (v:=.int x.u) rfl (vd _ _ ⟨rfl,rfl⟩)
 rintro σ' H' ⟨rfl,rfl⟩;refine eV.of (fun σ' H'=>wJ=H'/\σ'=[some (V.ref pa),some (V.ref sa),some (V.int come),some (V.int 12),some (V.int x.p),some (V.int x.m),some (V.ref pb),some (V.int ↑x.a),some (V.int x.e),some (V.ref pc),some (V.ref pd),some (V.int st.w),some (V.int nx.r),some (V.ref sb),some (V.int nx.s),some (V.int nx.t),some (V.ref sc),some (V.ref pl),some (V.int (st.w+bU x st come)),some (V.int (fK x st come)),some (V.ref pn),some (V.int ch),o,o1,o2]) ?_ ?_
 rotate_left 1
 ·intro N vd;ext;unfold mO at k5;by_cases c1:x.e<=st.s+1
  ·rw[aL (ju c1)];rw[bD ∅] at k5
   rw[k5] at vd;exact vd _ _ ⟨rfl,rfl⟩
  ·rw[bD (by simpa using c1)]
   rw[aL ∅] at k5
   rw[k5] at vd;exact vd _ _ ⟨rfl,rfl⟩
 rintro σ' H' ⟨rfl,rfl⟩;ext;have ahh:wJ pn=some (.lst (V.ref q6::us)):=y11.get npl ahi;have aiu:ak wJ ((cO x st come).map jD) (V.ref q6::us):=(aiv.mono y11).mono fO;refine⟨pl,_,rfl,Ih,fun l12 f12=>?_⟩;have s12:=aM f12 (HO.tup (nx.cs.map V.int));have Ra:upd wJ l12 (HO.tup (nx.cs.map V.int)) l12=some (.tup (nx.cs.map V.int)):=aD;generalize upd wJ l12 (HO.tup (nx.cs.map V.int))=H12 at s12 Ra ⊢;refine⟨pn,_,rfl,d7.of (s12 _ _ ahh),fun p13 f13=>?_⟩;rw[j_ ⋯]
 have pY:=aM f13 (HO.lst ((V.ref q6::us).take (Int.toNat 3)));have U4:upd H12 p13 (HO.lst ((V.ref q6::us).take (Int.toNat 3))) p13=some (.lst ((V.ref q6::us).take (Int.toNat 3))):=aD;generalize upd H12 p13 (HO.lst ((V.ref q6::us).take (Int.toNat 3)))=YD at pY U4 ⊢;refine⟨p13,_,rfl,U4,fun l14 f14=>?_⟩;have V_:=aM f14 (HO.tup ((V.ref q6::us).take (Int.toNat 3)));have U3:upd YD l14 (HO.tup ((V.ref q6::us).take (Int.toNat 3))) l14=some (.tup ((V.ref q6::us).take (Int.toNat 3))):=aD;generalize upd YD l14 (HO.tup ((V.ref q6::us).take (Int.toNat 3)))=H14 at V_ U3 ⊢;refine⟨⋯,fun QB UG f15 CP Oh=>⟨⋯,fun p16 H16 f16 Al e16=>?_⟩⟩
 have aa9:aF wJ H16:=s12.trans (pY.trans (V_.trans (CP.trans Al)))
 have ahU:H16 p16=some (.tup [.ref QB,.int (fK x st come),.int (come-bU x st come),.int ch]):=by
  rw[e16,show st.w+come-(st.w+bU x st come)=come-bU x st come by omega]
 refine q p16 (.ref QB) H16 (x11.trans aa9) ?_ ahU
 have aU:ak H16 (nx.us.map jD) ((V.ref q6::us).take (Int.toNat 3)):=by
  rw[k6,C_];exact(aiu.take 3).mono aa9
 rw[<- k4] at Oh;exact At.tup (Al _ _ Oh) (ak.cons (At.int _) (ak.cons (At.int _) (ak.cons (At.tup ((pY.trans (V_.trans (CP.trans Al))) _ _ Ra) (bI _)) (ak.cons (At.int _) (ak.cons (At.int _) (ak.cons (At.tup ((CP.trans Al) _ _ U3) aU) ak.nil))))))
theorem Ut(rs:List gZ)(wh:Str):gF 1 (((List.range rs.length).filter fun i=>decide ((rs.getD i ⟨"",0,"",0,0⟩).w=wh)).map fun i=>(((rs.getD i ⟨"",0,"",0,0⟩).s:Nat):Int))-1=gb rs wh:=by
 generalize hL:((List.range rs.length).filter fun i=>decide ((rs.getD i ⟨"",0,"",0,0⟩).w=wh)).map (fun i=>(((rs.getD i ⟨"",0,"",0,0⟩).s:Nat):Int))=Lq;obtain⟨m1,m2⟩:=GX Lq 1;refine Ak.one (rs:=rs) (w:=wh) ⟨?_,fun r hr hw=>?_,?_⟩ (pN rs wh)
 ·have:=m1 1 jw; omega
 ·obtain⟨i,hi⟩:=Ba.mp hr;have hil:=(gC.mp hi).1;have e:rs.getD i ⟨"",0,"",0,0⟩=r:=by rw[fD,hi]; rfl
  have:=m1 (r.s:Int) (iR _ (by
   rw[<- hL];refine gW.mpr ⟨i,JP.mpr ⟨qU.mpr hil,?_⟩,by rw[e]⟩
   rw[e]; exact ju hw))
  omega
 ·rcases bT.mp m2 with z | z
  ·exact .inl ∅
  ·rw[<- hL] at z;obtain⟨i,hi,ei⟩:=gW.mp z;obtain⟨h1,h2⟩:=JP.mp hi;have hil:=qU.mp h1;refine .inr ⟨rs.getD i ⟨"",0,"",0,0⟩,?_,uT h2,?_⟩
   ·rw[fD,gm hil]; exact Gh _
   ·rw[hL] at ei; omega
def Pu:Sp:=fun vs H Q _=>∃(v u:V)(x:cP)(st:dW),vs=[v,u]/\At H (gH x) v/\At H (nY st) u/\Eo x/\iY st/\∀u' H',aF H H'->At H' (nY (fU x st)) u'->Q u' H'
theorem Cw:a_ ["_law_post","_law_stand","_law_wait","_law_ready","_law_called","_law_since","_law_rest","_law_seen","_law_rows","_law_spans","_law_rule","_law_what","_law_kept","_law_k","_law_triple"] ["_law_post","_law_stand"] (aK yc):=(by walk_at "c")
theorem S6(F:jc K "_law_lean" "_law_lean" yc f fd)(B:Bi mg):bZ P w K mg base iJ (k+1) f fd ["_law_post","_law_stand"] Pu:=by
 refine F.ok Cw (by rintro vs H Q E ⟨v,u,x,st,rfl,_⟩; rfl) (0:)
 obtain⟨pA,sA,x,st,rfl,a1,a2,hx,hs,q⟩:=h;have ND:=Cw.nd;refine⟨_,(aq (cJ (pv 1) (bG (K:=K) (n:=6) rfl rfl (aA (aC (i:=2)) (aA (aC (i:=3)) (aA (aC (i:=4)) (aA (aC (i:=5)) (aA (aC (i:=6)) (aA (aC (i:=7)) bF)))))))) (aq (uU (i:=8) (j:=9) rfl ND rfl rfl ⋯ rfl rfl (aa (bR aj) (aa (bR aj) aj)) (by rfl)) (aq (fZ PassesOwn.never rfl (ig (K:=K) rfl (bB aW (pv 0) ao (fun _ _=>rfl))) (aC (i:=10)) (aG (eQ (gJ (K:=K) rfl PySem.F.plainAttrs_list PySem.F.slot_list_extend PySem.F.type_list_extend M_ (pv 8) (aa (pv 10) aj))))) (aq (fZ PassesOwn.never rfl (ig (K:=K) rfl (aV (aa cD (aa cD (aa cD aj))))) (aC (i:=11)) (aG (eQ (gJ (K:=K) rfl PySem.F.plainAttrs_list PySem.F.slot_list_append PySem.F.type_list_append dY (pv 9) (aa (aO dX (pb (Ef rfl) B.max jG (aa (aO uX (bR (aa ao aj)) (gw (nt:=1) (N':=["_law_row_here","_law_what"]) (js:=[11]) rfl (iT (K:=K) rfl (pv 8)) jH.of (fun fp s' H'=>(aC (i:=0) (by show List.Nodup (["_law_row_here","_law_what"]:List Str); decide) rfl (.inl (h_ rfl)) (.inr (h_ rfl)))) (fun fp s' H'=>wY (bj gY (bB aW (pv 0) ao (fun _ _=>rfl)) (pv 1) (bh _))) (fun fp s' H'=>(bB aW (pv 0) ao (fun _ _=>rfl))))) aj)) ao) aj))))) (aq (aX (i:=12) (bR aj)) (aq (fZ PassesOwn.never rfl (J_ (K:=K) rfl B.enumerate (aa (pv 7) aj)) (bG (K:=K) (n:=2) rfl rfl (aA (aC (i:=13)) (aA (aC (i:=14)) bF))) (aG (eQ (gJ (K:=K) rfl PySem.F.plainAttrs_list PySem.F.slot_list_append PySem.F.type_list_append dY (pv 12) (aa (pt (dZ) B.tuple dG (aa (gw (nt:=2) (N':=["_law_number","_law_span","_law_k"]) (js:=[13]) rfl (Ww (K:=K) rfl B.zip (aa (pv 14) (aa (pv 9) aj))) jH.of (fun fp s' H'=>(bG (K:=K) (n:=2) rfl rfl (aA (aC (i:=0) (by show List.Nodup (["_law_number","_law_span","_law_k"]:List Str); decide) rfl (.inl (h_ rfl)) (.inr (h_ rfl))) (aA (aC (i:=1) (by show List.Nodup (["_law_number","_law_span","_law_k"]:List Str); decide) rfl (.inl (h_ rfl)) (.inr (h_ rfl))) bF)))) (fun fp s' H'=>ik) (fun fp s' H'=>(aO gK (pv 0) (pt (mG) B.int vq (aa (eY jy (pv 1) (pv 2) (bh _)) aj))))) aj)) aj))))) (aG (aZ (aV (aa (pv 2) (aa (pv 3) (aa (pv 4) (aa (pb (dN rfl) B.min gO (aa (pv 5) (aa (aO dX (bB aW (pv 0) ao (fun _ _=>rfl)) ao) aj))) (aa (pv 6) (aa (pt (dZ) B.tuple dG (aa (pv 12) aj)) aj))))))))))))))),?_⟩
 obtain⟨pa,pb,pc,pd,rfl,p1,p2,p3,p4⟩:=m5 a1;obtain⟨sa,sb,sc,rfl,g1,g2,g3⟩:=iu a2;ext;refine⟨sa,_,rfl,cB.of g1,rfl,?_⟩;ext;refine⟨fG _,fun pr H0 f0 s0 e0=>⟨fG _,fun ps H1 f1 s1 e1=>⟨_,_,rfl,?_⟩⟩⟩;have npr:ps≠pr:=fun z=>by rw[z,e0] at f1; cases f1
 obtain⟨_,rs,ep,gr,ar⟩:=bz p4;cases ep;have lrs:rs.length=x.cQ.length:=by rw[ar.length,bW]
 have x1:SX pr H H1:=SX.of (s0.trans s1)
 have fl:x.cQ.flatten.length<=12:=by
  have h4:=Hi (m:=4) (ls:=x.cQ) (fun rs hrs=>(hx.r rs hrs).hi);have h5:=hx.n;have h6:4*x.cQ.length<=4*3:=Nat.mul_le_mul_left 4 h5;omega
 rw[rW];ext;have big:=SX.same f0 x1;refine Ix.tup (big _ _ p1) (v:=.ref pd) rfl ?_;obtain⟨Pv,hPv⟩:∃Pv:Nat->St->Hp->Prop,∀i σ H',Pv i σ H'↔(∃(uv:Option V)(zs:List V),σ=[some (.ref pa),some (.ref sa),some (.int st.w),some (.int st.r),some (.ref sb),some (.int st.s),some (.int st.t),some (.ref sc),some (.ref pr),some (.ref ps),uv,none,none,none,none]/\H' pr=some (.lst zs)/\ak H' ((x.cQ.take i).flatten.map mX) zs/\H' ps=some (.lst [])/\SX pr H H'):=⟨_,fun _ _ _=>kO⟩;refine TK.of (big _ _ gr) Pv ((hPv _ _ _).mpr ⟨_,[],rfl,s1 _ _ e0,ak.nil,e1,x1⟩) (fun i σ H' _ hh=>?_) ?_ ?_
 ·obtain⟨_,_,_,_,_,_,z⟩:=(hPv _ _ _).mp hh;exact(SX.same f0 z) _ _ gr
 ·intro i y σ H2 hy hh;obtain⟨uv,zs,rfl,e2,a2',es2,x2⟩:=(hPv _ _ _).mp hh;obtain⟨d,ed,ad⟩:=ar.get hy;rw[g_] at ed;obtain⟨rl,erl,rfl⟩:=kI.mp ed;have hG:=hx.r rl (jx erl);have ad2:=ad.mono (SX.same f0 x2);obtain⟨ra,ws,rfl,gz,az⟩:=bz ad2;have lz:ws.length=rl.length:=by rw[az.length,bW]
  have et:(x.cQ.take (i+1)).flatten=(x.cQ.take i).flatten++rl:=by rw[take_snoc erl,List.flatten_append]; simp
  have lzs:zs.length<=12:=by
   rw[a2'.length,bW]
   have h1:((x.cQ.take i).flatten).length<=x.cQ.flatten.length:=by
    conv=>rhs; rw[<- Qj i x.cQ,List.flatten_append,c7]
    omega
   omega
  have hi4:=hG.hi;ext;refine⟨.inl ⟨rfl,_,d7.of e2⟩,pr,ra,zs,ws,rfl,rfl,e2,gz,jK (bC ∅),?_⟩
  refine(hPv _ _ _).mpr ⟨_,zs++ws,rfl,aD,?_,by rw[aP npr]; exact es2,x2.trans SX.upd⟩
  rw[et,iZ]
  have nl:bJ (((x.cQ.take i).flatten.map mX)++(rl.map mX))=true:=cL.mpr fun d hd=>by
   rcases lE.mp hd with z | z
   ·obtain⟨r,_,rfl⟩:=gW.mp z; exact wM r
   ·obtain⟨r,_,rfl⟩:=gW.mp z; exact wM r
  have:=ak.pG e2 _ _ nl (a2'.append az);rw[<- iV (o:=HO.lst (zs++ws))] at this;exact this.mono fO
 ·intro σ H2 hh;obtain⟨uv,zs,rfl,e2,a2',es2,x2⟩:=(hPv _ _ _).mp hh;rw[lrs,mY] at a2';have hzl:zs.length=x.cQ.flatten.length:=by rw[a2'.length,bW]
  have YL:=SX.same f0 x2;clear hPv Pv hh
  try dsimp only
  ext;rw[rW];ext;refine⟨⋯,fun pt H3 f3 s3 e3=>?_⟩
  have f1':H2 ps=some (.lst []):=es2;have frs:H ps=none:=s0.free f1;have e23:=s3 _ _ e2;have a23:=a2'.mono s3;obtain⟨Pw,XN⟩:∃Pw:Nat->St->Hp->Prop,∀i σ H',Pw i σ H'↔(∃(GF:Option V),σ=[some (.ref pa),some (.ref sa),some (.int st.w),some (.int st.r),some (.ref sb),some (.int st.s),some (.int st.t),some (.ref sc),some (.ref pr),some (.ref ps),uv,GF,none,none,none]/\H' ps=some (.lst (((fH x).take i).map V.int))/\SX ps H3 H'):=⟨_,fun _ _ _=>kO⟩;have npt:pt≠ps:=fun z=>by rw[z,es2] at f3; cases f3
  have agG:pr≠ps:=Ne.symm npr;refine TK.of e3 Pw ((XN _ _ _).mpr ⟨_,rfl,s3 _ _ es2,SX.refl _ _⟩) (fun i σ H' _ hh=>?_) ?_ ?_
  ·obtain⟨_,_,_,z⟩:=(XN _ _ _).mp hh;exact z.get npt e3
  ·intro i y σ H4 hy hh;obtain⟨GF,rfl,es4,x4⟩:=(XN _ _ _).mp hh
   obtain⟨wh,rfl,hi3,hnext⟩:∃wh:Str,y=.str wh/\i<3/\(fH x).take (i+1)=(fH x).take i++[gb x.cQ.flatten wh]:=by
    rcases i with _ | _ | _ | i
    ·cases hy; exact⟨_,rfl,∅,rfl⟩
    ·cases hy; exact⟨_,rfl,∅,rfl⟩
    ·cases hy; exact⟨_,rfl,∅,rfl⟩
    ·simp at hy
   have e4:H4 pr=some (.lst zs):=x4.get agG e23;have a4:ak (hid ps H4) (x.cQ.flatten.map mX) zs:=(ak.pG (s3 _ _ es2) _ _ (cL.mpr fun d hd=>by obtain⟨r,_,rfl⟩:=gW.mp hd; exact wM r) a23).mono x4
   have a4':=a4.mono fO;ext;refine⟨.inl ⟨rfl,_,d7.of es4⟩,⋯,fun p5 H5 f5 s5 e5=>?_⟩
   have ae6:∀j (z:V) H',zs[j]?=some z->aF H4 H'->∃ya,z=.ref ya/\H' ya=some (.tup [.str (x.cQ.flatten.getD j ⟨"",0,"",0,0⟩).w,.int (x.cQ.flatten.getD j ⟨"",0,"",0,0⟩).s,.str (x.cQ.flatten.getD j ⟨"",0,"",0,0⟩).g,.int (x.cQ.flatten.getD j ⟨"",0,"",0,0⟩).n,.int (x.cQ.flatten.getD j ⟨"",0,"",0,0⟩).t]):=fun j z H' hz s'=>by
    obtain⟨d,ed,ad⟩:=a4'.get hz;rw[g_] at ed;obtain⟨r,er,rfl⟩:=kI.mp ed;obtain⟨ya,rfl,gy⟩:=row_shape (ad.mono s');have e:x.cQ.flatten.getD j ⟨"",0,"",0,0⟩=r:=by rw[fD,er]; rfl
    rw[e];exact⟨ya,rfl,gy⟩
   refine Ho (fun j=>decide ((x.cQ.flatten.getD j ⟨"",0,"",0,0⟩).w=wh)) (fun j=>V.int (((x.cQ.flatten.getD j ⟨"",0,"",0,0⟩).s:Nat):Int)) (fun R hR=>by ext; exact hR) (s5 _ _ e4) ∅ (fun j z H' hz s' R hR=>?_) (fun j z H' hz hk s' R hR=>?_) (fun acc H6 s6 acS h6=>?_)
   ·obtain⟨ya,rfl,gy⟩:=ae6 j z H' hz (s5.trans s');show O_ _ [some _,some (.str wh)] H' R;ext;refine Ix.tup gy (v:=.str (x.cQ.flatten.getD j ⟨"",0,"",0,0⟩).w) rfl ?_;simp only[F_];exact⟨_,rfl,hR⟩
   ·obtain⟨ya,rfl,gy⟩:=ae6 j z H' hz (s5.trans s');show YJ _ _ _ [some _,some (.str wh)] H' R;ext;exact Ix.tup gy (v:=.int (x.cQ.flatten.getD j ⟨"",0,"",0,0⟩).s) rfl hR
   ·have eI:((List.range zs.length).filter fun j=>decide ((x.cQ.flatten.getD j ⟨"",0,"",0,0⟩).w=wh)).map (fun j=>V.int (((x.cQ.flatten.getD j ⟨"",0,"",0,0⟩).s:Nat):Int))=(((List.range x.cQ.flatten.length).filter fun j=>decide ((x.cQ.flatten.getD j ⟨"",0,"",0,0⟩).w=wh)).map (fun j=>(((x.cQ.flatten.getD j ⟨"",0,"",0,0⟩).s:Nat):Int))).map V.int:=by rw[hzl,CQ]; rfl
    rw[eI] at h6
    have hl6:(((List.range x.cQ.flatten.length).filter fun j=>decide ((x.cQ.flatten.getD j ⟨"",0,"",0,0⟩).w=wh)).map (fun j=>(((x.cQ.flatten.getD j ⟨"",0,"",0,0⟩).s:Nat):Int))).length<=12:=by
     rw[bW];exact qt (List.length_filter_le _ _) (by rw[Dk]; exact fl)
    have hmx:=Ut x.cQ.flatten wh;generalize ((List.range x.cQ.flatten.length).filter fun j=>decide ((x.cQ.flatten.getD j ⟨"",0,"",0,0⟩).w=wh)).map (fun j=>(((x.cQ.flatten.getD j ⟨"",0,"",0,0⟩).s:Nat):Int))=Lq at h6 hl6 hmx;refine Jv.of (s6 _ _ e5) h6 (aai (by rw[bW]; show 1+_<=1000; omega)) fun p7 H7 f7 s7 e7=>?_
    refine⟨p7,1,Lq,rfl,e7,?_⟩;rw[hmx];have s47:=s5.trans (s6.trans s7);have es7:=s47 _ _ es4;refine⟨ps,_,_,rfl,rfl,es7,bC (by rw[bW,jV]; omega),?_⟩
    refine(XN _ _ _).mpr ⟨_,rfl,?_,(x4.trans (SX.of s47)).trans SX.upd⟩;rw[aD,hnext,iZ];rfl
  ·intro σ H4 hh;obtain⟨GF,rfl,es4,x4⟩:=(XN _ _ _).mp hh;have es4:H4 ps=some (.lst ((fH x).map V.int)):=es4;have afh:aF H H4:=SX.same frs ((SX.of (YL.trans s3)).trans x4);clear XN Pw hh
   try dsimp only
   ext;refine⟨fG _,fun pk H5 f5 s5 e5=>?_⟩;rw[Ma];ext;obtain⟨_,us,esc,gu,au⟩:=bz g3;cases esc;have lus:us.length=3:=by rw[au.length,bW,hs.u]
   have big5:=afh.trans s5;have frp:H pk=none:=afh.free f5;have lN:(fH x).length=3:=rfl;have es5:=s5 _ _ es4;have nps:ps≠pk:=fun z=>by rw[<- z,es4] at f5; cases f5
   generalize hM:fH x=M at es5 lN;refine EKT.of (big5 _ _ gu) (fun i σ H'=>∃(ys:List V)(WY WX:Option V),σ=[some (.ref pa),some (.ref sa),some (.int st.w),some (.int st.r),some (.ref sb),some (.int st.s),some (.int st.t),some (.ref sc),some (.ref pr),some (.ref ps),uv,GF,some (.ref pk),WY,WX]/\H' pk=some (.lst ys)/\ys.length=i/\ak (hid pk H') (((List.range i).map fun j=>bQ M j (st.us.getD j [])).map jD) ys/\SX pk H5 H')
    ⟨[],_,_,rfl,e5,rfl,ak.nil,SX.refl _ _⟩ (fun i σ H' _ ⟨_,_,_,_,_,_,_,z⟩=>z.get (bV gu frp) (big5 _ _ gu)) ?_ ?_
   ·rintro i y σ H6 p hy ⟨ys,WY,WX,rfl,e6,l6,a6,x6⟩ fp;have hi:i<3:=by rw[<- lus]; exact(gC.mp hy).1
    obtain⟨d,ed,ad⟩:=au.get hy;rw[g_] at ed;obtain⟨u,eu,rfl⟩:=kI.mp ed;have lu:u.length=3:=hs.l u (jx eu);obtain⟨yt,yx,rfl,hyt,hyx⟩:=bz ad;cases cG hyx;refine⟨p,_,rfl,cB.of aD,rfl,?_⟩;have s7:=aM fp (HO.tup [V.int (i:Nat),V.ref yt]);generalize upd H6 p (HO.tup [V.int (i:Nat),V.ref yt])=H7 at s7 ⊢;ext;have e7:=s7 _ _ e6;have x7:SX pk H5 H7:=x6.trans (SX.of s7);refine⟨.inl ⟨rfl,_,d7.of e7⟩,?_⟩;have h1:H7 yt=some (.tup (u.map V.int)):=x7.get (bV hyt frp) (big5 _ _ hyt);have h2:H7 ps=some (.lst (M.map V.int)):=x7.get nps es5;have lt:(bQ M i u).length=3:=rfl;refine Oj (es:=(bQ M i u).map PyData.int) (fun j=>[some (.int (u.getD j 0)),some (.int (M.getD j 0))]) (fun _=>rfl) (fun R hR=>?_) h1 h2 (by rw[bW,bW,lt,lu]) (by rw[bW,bW,lt,lN]) (by rw[bW,lt]; decide) (j0 _) (fun j a b q H' ha hb s' hq R hR=>?_) (fun j e H' he s' R hR=>?_) (fun acc zs' H8 s8 hacc hl hA=>?_)
    ·ext; exact hR
    ·obtain⟨_,rfl⟩:=ints_get ha;obtain⟨_,rfl⟩:=ints_get hb;refine⟨q,_,rfl,cB.of hq,rfl,?_⟩;ext;exact hR
    ·obtain⟨hj,rfl⟩:=jh he;rw[lt] at hj;show YJ _ _ _ [some _,some _,some (.int (i:Nat))] H' R;ext
     have ev:(bQ M i u).getD j 0=if M.getD j 0>i then u.getD j 0 else 0:=by
      unfold bQ;rw[fD,g_,List.getElem?_range hj]; rfl
     rw[ev] at hR;by_cases c1:M.getD j 0>(i:Int)
     ·rw[aL (ju ∅)]
      rw[aL c1] at hR;refine⟨.inr ⋯,?_⟩
      rw[Int.mul_one];exact hR _ _ (aF.refl _) (At.int _)
     ·rw[bD (by rw[decide_eq_true_eq]; omega)]
      rw[bD c1] at hR;refine⟨.inr ⋯,?_⟩
      rw[Int.mul_zero];exact hR _ _ (aF.refl _) (At.int _)
    ·cases cG hA;refine⟨acc,_,rfl,hl,fun l fl=>?_⟩;have e8:=s8 _ _ e7;have nl:l≠pk:=fun z=>by rw[z,e8] at fl; cases fl
     have s9:=aM fl (HO.tup ((bQ M i u).map V.int));have e9:upd H8 l (HO.tup ((bQ M i u).map V.int)) l=some (.tup ((bQ M i u).map V.int)):=aD;generalize upd H8 l (HO.tup ((bQ M i u).map V.int))=H9 at s9 e9 ⊢;have s69:SX pk H6 H9:=SX.of (s7.trans (s8.trans s9));refine⟨pk,ys,_,rfl,rfl,s9 _ _ e8,by rw[l6]; exact bC ∅,ys++[.ref l],_,_,rfl,aD,by rw[c7,l6]; rfl,?_,(x6.trans s69).trans SX.upd⟩
     rw[iV,yG,iZ,iZ];refine(a6.mono s69).append ?_;have eg:st.us.getD i []=u:=by rw[fD,eu]; rfl
     show ak _ [jD (bQ M i (st.us.getD i []))] _;rw[eg];exact ak.cons (At.tup (by rw[dh nl]; exact e9) (bI _)) ak.nil
   ·rintro σ H6 ⟨ys,WY,WX,rfl,e6,l6,a6,x6⟩;rw[lus] at a6 l6;have V8:aF H H6:=SX.same frp ((SX.of big5).trans x6);ext;refine Ix.tup (V8 _ _ p1) (v:=.int x.e) rfl ⟨_,_,rfl,rfl,pk,ys,rfl,e6,fun l fl=>⟨⋯,fun p7 H7 f7 s7 e7=>?_⟩⟩
    have s67:=(aM fl (HO.tup ys)).trans s7;refine q (.ref p7) H7 (V8.trans s67) (At.tup e7 (ak.cons (At.int _) (ak.cons (At.int _) (ak.cons (At.tup ((V8.trans s67) _ _ g2) (bI _)) (ak.cons (At.int _) (ak.cons (At.int _) (ak.cons (At.tup (s7 _ _ aD) ?_) ak.nil)))))));rw[<- hM] at a6;exact(a6.mono fO).mono s67
def stp(q:Int×Int)(l x:Int):Int:=if l+q.2-x<q.1 then l+q.2-x else q.1
def jJ(c:Cv)(L:List Int):List Int:=L.foldl (fJ c) (c.map (·.1))
theorem Je(c:Cv)(L:List Int)(x:Int):jJ c (L++[x])=fJ c (jJ c L) x:=by
 unfold jJ;rw[List.foldl_append];rfl
theorem fold_map:∀(L:List Int)(c:Cv)(g:Int×Int->Int),L.foldl (fJ c) (c.map g)=c.map fun q=>L.foldl (stp q) (g q)
 | [],c,g=>rfl
 | x::L,c,g=>by
  have e:fJ c (c.map g) x=c.map fun q=>stp q (g q) x:=by
   unfold fJ;rw[List.zipWith_map_right,List.zipWith_self];rfl
  rw[List.foldl_cons,e,fold_map L c];rfl
section
variable{x:cP}{c:Cv}{st:dW}
end
theorem aaq{a b:Bool}{R:Bool->Prop}(h:R (a || b)):if a=true then R true else R b:=by cases a <;> exact h
theorem Yg{xs:List V}{y:V}:nq (xs++[y]) none (some (-1))=xs:=by
 unfold nq
 have e:HT.gP (xs++[y]).length (xs++[y]).length (some (-1))=xs.length:=by
  unfold HT.gP;simp;omega
 have e0:HT.gP (xs++[y]).length 0 none=0:=rfl;rw[e,e0,JM,JK,List.take_left'];rfl
def vW(c:Cv)(sp:List Int)(y:Int):List Int:=List.zipWith (fun p l=>l+p.2-y) c sp
theorem Af:∀bs:List Bool,PyData.hasDictAll (bs.map .bool)=false/\PyData.canLayAll0 (bs.map .bool)=true/\PyData.depthAll (bs.map .bool)=0
 | []=>⟨rfl,rfl,rfl⟩
 | b::bs=>by
  obtain⟨h1,h2,h3⟩:=Af bs;refine⟨?_,?_,?_⟩
  ·simp only[oX,PyData.hasDictAll,PyData.hasDict,h1,Bool.or_false]
  ·simp only[oX,PyData.canLayAll0,PyData.canLay0,h2,Bool.and_true]
  ·simp only[oX,PyData.depthAll,PyData.depth,h3]; rfl
theorem El{H:Hp}:∀bs:List Bool,ak H (bs.map .bool) (bs.map V.bl)
 | []=>ak.nil
 | b::bs=>ak.cons (At.bool b) (El bs)
def V2:Sp:=fun vs H Q _=>∃(v cv:V)(l:Addr)(x:cP)(c:Cv)(bd:Int)(L:List Int),vs=[v,cv,.int bd,.ref l]/\At H (gH x) v/\At H (Ii c) cv/\Eo x/\Il c/\H l=some (.lst (L.map V.int))/\L.length<=900/\L≠[] /\
 (∀k,k<L.length->L.getD k 0<=cY c (jJ c (L.take k))) /\
 (∀k,k<L.length->(decide ((dU x (st0 x) (L.take (k+1))).w>bd) || decide (L.getD k 0-bU x (dU x (st0 x) (L.take k)) (L.getD k 0)>0))=decide ((k:Int)=(L.length:Int)-1)) /\
 ∀H',aF H H'->Q (.bl true) H'
theorem vD:a_ ["_law_post","_law_curve_here","_law_bound","_law_load","_law_stand","_law_spare","_law_broken","_law_come","_law_done","_law_away","_law_change"] ["_law_post","_law_curve_here","_law_bound","_law_load"] (aK qQ):=(by walk_at "c")
theorem Kf(F:jc K "_law_breaks" "_law_breaks" qQ f fd)(B:Bi mg)(Ac:Ct P w K mg base k "_law_beat" ["_law_post","_law_stand","_law_come","_law_free"] FQ):bZ P w K mg base iJ (k+1) f fd ["_law_post","_law_curve_here","_law_bound","_law_load"] V2:=by
 refine F.ok vD (by rintro vs H Q E ⟨v,cv,l,x,c,bd,L,rfl,_⟩; rfl) (0:)
 obtain⟨v,cv,l,x,c,bd,L,rfl,a1,a3,hx,hv,hl,hL,hne,hVl,hBr,q⟩:=h;have ND:=vD.nd;refine⟨_,(aq (uU (i:=4) (j:=5) rfl ND rfl rfl ⋯ rfl rfl (aa (aV (aa ao (aa (bB aW (bB aW (pv 0) ao (fun _ _=>rfl)) ao (fun _ _=>rfl)) (aa (aV (aa ao (aa ao (aa ao (aa ao (aa ao aj)))))) (aa ao (aa ao (aa (aO QC (aV (aa (aV (aa ao (aa ao (aa ao aj)))) aj)) ao) aj))))))) (aa (gw (nt:=2) (N':=["_law_burst","_law_rate"]) (js:=[]) rfl (ig (K:=K) rfl (pv 1)) jH.of (fun fp s' H'=>(bG (K:=K) (n:=2) rfl rfl (aA (aC (i:=0) (by show List.Nodup (["_law_burst","_law_rate"]:List Str); decide) rfl (.inl (h_ rfl)) (.inr (h_ rfl))) (aA (aC (i:=1) (by show List.Nodup (["_law_burst","_law_rate"]:List Str); decide) rfl (.inl (h_ rfl)) (.inr (h_ rfl))) bF)))) (fun fp s' H'=>ik) (fun fp s' H'=>(pv 0))) aj)) (by rfl)) (aq (aX (i:=6) (bR aj)) (aq (fZ PassesOwn.never rfl (iT (K:=K) rfl (pv 3)) (aC (i:=7)) (aq (cJ (pf Ac hr (aa (pv 0) (aa (pv 4) (aa (pv 7) (aa ao aj))))) (bG (K:=K) (n:=4) rfl rfl (aA (aC (i:=4)) (aA (aC (i:=8)) (aA (aC (i:=9)) (aA (aC (i:=10)) bF)))))) (aq (eQ (gJ (K:=K) rfl PySem.F.plainAttrs_list PySem.F.slot_list_append PySem.F.type_list_append dY (pv 6) (aa (abf (eY jy (bB aW (pv 4) ao (fun _ _=>rfl)) (pv 2) (bh _)) (qZ (eY jy (pv 9) ao (bh _)))) aj))) (aq (ph (i:=5) ND rfl (by walk_at "o") (nt:=3) (N':=["_law_one","_law_burst","_law_rate","_law_come"]) (js:=[7]) rfl (J9 (K:=K) rfl B.zip (aa (pv 5) (aa (pv 1) aj))) jH.of (fun fp s' H'=>(bG (K:=K) (n:=2) rfl rfl (aA (aC (i:=0) (by show List.Nodup (["_law_one","_law_burst","_law_rate","_law_come"]:List Str); decide) rfl (.inl (h_ rfl)) (.inr (h_ rfl))) (aA (bG (K:=K) (n:=2) rfl rfl (aA (aC (i:=1) (by show List.Nodup (["_law_one","_law_burst","_law_rate","_law_come"]:List Str); decide) rfl (.inl (h_ rfl)) (.inr (h_ rfl))) (aA (aC (i:=2) (by show List.Nodup (["_law_one","_law_burst","_law_rate","_law_come"]:List Str); decide) rfl (.inl (h_ rfl)) (.inr (h_ rfl))) bF))) bF)))) (fun fp s' H'=>ik) (fun fp s' H'=>(aO dX (aO bK (pv 0) (pv 2)) (pv 3)))) (aq (cX (bj tK (pb (Ed rfl) B.min gO (aa (pv 5) aj)) ao (bh _)) (aG (aZ jX)) bM) (aG (ph (i:=5) ND rfl (by walk_at "o") (nt:=3) (N':=["_law_one","_law_burst","_law_rate"]) (js:=[]) rfl (J9 (K:=K) rfl B.zip (aa (pv 5) (aa (pv 1) aj))) jH.of (fun fp s' H'=>(bG (K:=K) (n:=2) rfl rfl (aA (aC (i:=0) (by show List.Nodup (["_law_one","_law_burst","_law_rate"]:List Str); decide) rfl (.inl (h_ rfl)) (.inr (h_ rfl))) (aA (bG (K:=K) (n:=2) rfl rfl (aA (aC (i:=1) (by show List.Nodup (["_law_one","_law_burst","_law_rate"]:List Str); decide) rfl (.inl (h_ rfl)) (.inr (h_ rfl))) (aA (aC (i:=2) (by show List.Nodup (["_law_one","_law_burst","_law_rate"]:List Str); decide) rfl (.inl (h_ rfl)) (.inr (h_ rfl))) bF))) bF)))) (fun fp s' H'=>ik) (fun fp s' H'=>(pb (dN rfl) B.min gO (aa (pv 0) (aa (pv 1) aj))))))))))) (aG (aZ (pq (eY (Gr hr.units) (pv 6) (bR aj) (bh _)) (pq (bB aW (pv 6) (Ds uy ao) (fun _ _=>rfl)) (qZ (Wx (pb (Ui rfl) B.any ac3 (aa (cz rZ (pv 6) dC (cN (Ds uy ao))) aj))))))))))),?_⟩
 obtain⟨ca,xs,rfl,hc,hcA⟩:=bz a3;have lxs:xs.length=c.length:=by rw[hcA.length,bW]
 have ln:=hv.n;obtain⟨ad,Yu,cd,dd,rfl,m1,m2,m3,m4⟩:=my a1;simp only[Jo];ext;refine Ix.tup m1 (v:=.ref Yu) rfl (Ix.tup m2 (v:=.int x.lo) rfl ⟨⋯,fun r1 K1 y1 k1 h1=>⟨⋯,fun r2 K2 y2 k2 h2=>⟨⋯,fun r3 K3 y3 k3 h3=>⟨r3,_,rfl,rfl,h3,fun r4 K4 y4 k4 h4=>⟨⋯,fun r5 K5 y5 k5 h5=>?_⟩⟩⟩⟩⟩)
 have b4:At K5 (nY (st0 x)) (.ref r5):=At.tup h5 (ak.cons (At.int _) (ak.cons (At.int _) (ak.cons (At.tup ((k2.trans (k3.trans (k4.trans k5))) _ _ h1) (bI [0,0,0,0,0])) (ak.cons (At.int _) (ak.cons (At.int _) (ak.cons (At.tup (k5 _ _ h4) (by
  have t:At K5 (jD [0,0,0]) (.ref r2):=At.tup ((k3.trans (k4.trans k5)) _ _ h2) (bI [0,0,0])
  exact ak.cons t (ak.cons t (ak.cons t ak.nil)))) ak.nil))))))
 have Li:=k1.trans (k2.trans (k3.trans (k4.trans k5)));refine Rh (es:=(c.map (·.1)).map PyData.int) (fun i=>[some (.int (c.getD i (0,0)).1),some (.int (c.getD i (0,0)).2)]) (fun i=>rfl) (fun R hR=>?_) (Li _ _ hc) (by rw[bW,bW,lxs]) (by rw[bW,bW]; exact jK (bC ∅)) (j0 _) (fun i x H' hx s' R hR=>?_) (fun i e H' he s' R hR=>?_) (fun acc zs H6 s6 hacc hl6 hA6=>?_)
 ·ext; exact hR
 ·obtain⟨b,rfl,hi,hb⟩:=vm hcA hx;refine⟨b,_,rfl,cB.of ((Li.trans s') _ _ hb),rfl,?_⟩;ext;exact hR
 ·obtain⟨hi,rfl⟩:=jh he;ext;refine hR _ _ (aF.refl _) ?_;rw[bW] at hi;have:(c.map (·.1)).getD i 0=(c.getD i (0,0)).1:=by rw[fD,fD,g_,gm hi]; rfl
  rw[this];exact At.int _
 cases cG hA6;refine⟨_,_,rfl,fG _,fun pB H7 f7 s7 e7=>?_⟩;have YK:=Li.trans s6;have s07:=YK.trans s7;have fB:H pB=none:=YK.free f7;rw[nW];ext;have lB:l≠pB:=bV hl fB;obtain⟨Pv,hPv⟩:∃Pv:Nat->St->Hp->Prop,∀i σ H',Pv i σ H'↔(∃(u:V)(sp:Addr)(o7 o8 o9 uv:Option V),σ=[some (.ref ad),some (.ref ca),some (.int bd),some (.ref l),some u,some (.ref sp),some (.ref pB),o7,o8,o9,uv]/\hid pB H' sp=some (.lst ((jJ c (L.take i)).map V.int))/\At (hid pB H') (nY (dU x (st0 x) (L.take i))) u/\O6 (dU x (st0 x) (L.take i))/\H' pB=some (.lst (((List.range i).map fun k:Nat=>decide ((k:Int)=(L.length:Int)-1)).map V.bl))/\SX pB H H'):=⟨_,fun _ _ _=>kO⟩;have agK:acc≠pB:=fun z=>by rw[<- z,hl6] at f7; cases f7
 have w0:O6 (st0 x):=⟨qN x,hx.lo.1,fun y hy=>by
  have:y=0:=by
   simp only[st0,bT,jW,or_false,or_self] at hy;exact hy
  omega,by have h1:=hx.lo; have h2:=hx.hi; show x.lo+0<=12; omega,sZ 0⟩
 refine LK.of (s07 _ _ hl) Pv ((hPv _ _ _).mpr ⟨_,acc,_,_,_,_,rfl,by rw[dh agK]; exact s7 _ _ hl6,At.pG e7 _ _ (pX _) ((b4.mono s6).mono s7),w0,e7,SX.of s07⟩) (fun i σ H' _ hh=>?_) ?_ ?_
 ·obtain⟨_,_,_,_,_,_,_,_,_,_,_,z⟩:=(hPv _ _ _).mp hh;exact z.get lB hl
 ·intro i y σ H8 hy hh;obtain⟨u,sp,o7,o8,o9,uv,rfl,esp,au,hW,eB,x8⟩:=(hPv _ _ _).mp hh;rw[g_] at hy;obtain⟨come,hcm,rfl⟩:=kI.mp hy;have hil:i<L.length:=(gC.mp hcm).1;have hgd:L.getD i 0=come:=by rw[fD,hcm]; rfl
  have s8:=SX.same fB x8;have htk:L.take (i+1)=L.take i++[come]:=take_snoc hcm;have hB:=hBr i hil;have hV:=hVl i hil;rw[hgd] at hB hV;rw[htk,fX] at hB;ext;refine⟨_,u,x,_,come,rfl,a1.mono s8,au.mono fO,hx,hW,fun p9 u9 H9 s9 b9 e9=>⟨p9,_,rfl,cB.of e9,rfl,?_⟩⟩;have b9':=b9;obtain⟨sa,sb,sc,rfl,g1,_⟩:=iu b9;ext;refine⟨.inl ⟨rfl,_,d7.of (s9 _ _ eB)⟩,Ix.tup g1 (v:=.int (iw x (dU x (st0 x) (L.take i)) come).w) rfl ⟨_,_,rfl,rfl,?_⟩⟩;refine aaq (R:=fun bb=>Gb (V.ref pB) [V.bl bb] H9 _) ?_;have hB:(decide (bd<(iw x (dU x (st0 x) (L.take i)) come).w) || decide (0<come-bU x (dU x (st0 x) (L.take i)) come))=decide ((i:Int)=(L.length:Int)-1):=hB;rw[hB];refine⟨pB,_,_,rfl,rfl,s9 _ _ eB,bC (by rw[bW,bW,Dk]; omega),?_⟩
  have xA:SX pB H8 (upd H9 pB (HO.lst (((List.range i).map fun k:Nat=>decide ((k:Int)=(L.length:Int)-1)).map V.bl++[V.bl (decide ((i:Int)=(L.length:Int)-1))]))):=(SX.of s9).trans SX.upd
  have eA:upd H9 pB (HO.lst (((List.range i).map fun k:Nat=>decide ((k:Int)=(L.length:Int)-1)).map V.bl++[V.bl (decide ((i:Int)=(L.length:Int)-1))])) pB=some (.lst (((List.range (i+1)).map fun k:Nat=>decide ((k:Int)=(L.length:Int)-1)).map V.bl)):=by
   rw[aD,yG,iZ,iZ]; rfl
  have bA:At (hid pB (upd H9 pB (HO.lst (((List.range i).map fun k:Nat=>decide ((k:Int)=(L.length:Int)-1)).map V.bl++[V.bl (decide ((i:Int)=(L.length:Int)-1))])))) (nY (iw x (dU x (st0 x) (L.take i)) come)) (.ref sa):=by
   rw[iV];exact At.pG (s9 _ _ eB) _ _ (pX _) b9'
  generalize upd H9 pB (HO.lst (((List.range i).map fun k:Nat=>decide ((k:Int)=(L.length:Int)-1)).map V.bl++[V.bl (decide ((i:Int)=(L.length:Int)-1))]))=HA at xA eA bA;have ahg:HA sp=some (.lst ((jJ c (L.take i)).map V.int)):=fO _ _ (xA _ _ esp);have sHA:aF H HA:=SX.same fB (x8.trans xA);have lsp:(jJ c (L.take i)).length=c.length:=by unfold jJ; rw[fold_map,bW]
  have zl:(vW c (jJ c (L.take i)) come).length=c.length:=by unfold vW; rw[Az]; omega
  have hnn:∀r∈vW c (jJ c (L.take i)) come,0<=r:=fun r hr=>by
   obtain⟨j,hj⟩:=Ba.mp hr;unfold vW at hj;rw[Jz] at hj;cases e1:c[j]? with
   | none=>rw[e1] at hj; cases hj
   | some p=>
    cases e2:(jJ c (L.take i))[j]? with
    | none=>rw[e1,e2] at hj; cases hj
    | some q=>
     rw[e1,e2] at hj;have hj:q+p.2-come=r:=by injection hj
     have hle:=QL hv lsp hV (if q+p.2-come<p.1 then q+p.2-come else p.1) (by
      refine jx (i:=j) ?_;unfold fJ
      rw[Jz,e1,e2])
     split at hle <;> omega
  have cA:ak HA (c.map ZJ) xs:=hcA.mono sHA;refine zT (es:=(vW c (jJ c (L.take i)) come).map PyData.int) (fun j=>[some (.int ((jJ c (L.take i)).getD j 0)),some (.int (c.getD j (0,0)).1),some (.int (c.getD j (0,0)).2)]) (fun j=>rfl) (fun R hR=>by ext; exact hR) ahg (sHA _ _ hc) (by rw[bW,bW,zl,lsp]) (by rw[bW,zl,lxs]) (by rw[bW,zl]; exact jK (bC ∅)) (j0 _) (fun j y y' q H' hy hy' s' hq R hR=>?_) (fun j e' H' he s' R hR=>?_) fun ais zz HB sB ajp hlB hAA=>?_
  ·obtain⟨hi2,rfl⟩:=ints_get hy;obtain⟨b,rfl,hi,hb⟩:=vm cA hy';refine⟨q,_,rfl,cB.of hq,rfl,?_⟩;ext;refine⟨b,_,rfl,cB.of (s' _ _ hb),rfl,?_⟩;ext;exact hR
  ·obtain⟨hi,rfl⟩:=jh he;rw[zl] at hi;show YJ _ _ _ [some _,some _,some _,some (.int come)] H' R;ext;refine hR _ _ (aF.refl _) ?_;unfold vW;rw[xg _ hi ∅]
   exact At.int _
  cases cG hAA
  obtain⟨rb,rr,hrr⟩:∃rb rr,vW c (jJ c (L.take i)) come=rb::rr:=by
   cases hzz:vW c (jJ c (L.take i)) come with
   | nil=>rw[hzz] at zl; exact absurd (Wg.mp zl.symm) hv.ne
   | cons b r=>exact⟨b,r,rfl⟩
  refine eV.on (fun HC sC=>?_) fun N hN=>?_
  ·have sAC:=sB.trans sC;have cC:=cA.mono sAC;have llf:(fJ c (jJ c (L.take i)) come).length=c.length:=Ku lsp;ext;refine zT (es:=(fJ c (jJ c (L.take i)) come).map PyData.int) (fun j=>[some (.int ((vW c (jJ c (L.take i)) come).getD j 0)),some (.int (c.getD j (0,0)).1),some (.int (c.getD j (0,0)).2)]) (fun j=>rfl) (fun R hR=>by ext; exact hR) (sC _ _ hlB) ((sHA.trans sAC) _ _ hc) (by rw[bW,bW,zl,llf]) (by rw[bW,llf,lxs]) (by rw[bW,llf]; exact jK (bC ∅)) (j0 _) (fun j y y' q H' hy hy' s' hq R hR=>?_) (fun j e' H' he s' R hR=>?_) fun Uu zz HD sD XM hlD hAD=>?_
   ·obtain⟨hi2,rfl⟩:=ints_get hy;obtain⟨b,rfl,hi,hb⟩:=vm cC hy';refine⟨q,_,rfl,cB.of hq,rfl,?_⟩;ext;refine⟨b,_,rfl,cB.of (s' _ _ hb),rfl,?_⟩;ext;exact hR
   ·obtain⟨hi,rfl⟩:=jh he;rw[llf] at hi;show tCB _ _ [some _,some _,some _] H' R;ext
    have ev:(if(c.getD j (0,0)).1<(vW c (jJ c (L.take i)) come).getD j 0 then(c.getD j (0,0)).1 else(vW c (jJ c (L.take i)) come).getD j 0)=(fJ c (jJ c (L.take i)) come).getD j 0:=by
     unfold vW fJ;rw[xg _ hi ∅,xg _ hi ∅]
     split <;> split <;> omega
    rw[ev];exact hR _ _ (aF.refl _) (At.int _)
   cases cG hAD;have sAD:=sAC.trans sD;have aeU:Uu≠pB:=fun z=>by rw[z,sAC _ _ eA] at XM; cases XM
   refine(hPv _ _ _).mpr ⟨_,Uu,_,_,_,_,rfl,?_,?_,?_,sAD _ _ eA,x8.trans (xA.trans (SX.of sAD))⟩
   ·rw[htk,Je,dh aeU]; exact hlD
   ·rw[htk,fX];exact At.pG (sAD _ _ eA) _ _ (pX _) ((bA.mono fO).mono sAD)
   ·rw[htk,fX]; exact hW.next hx
  ·ext;refine⟨ais,rb,rr,rfl,by rw[hlB,hrr]; rfl,?_⟩
   have hmn:=hnn (lJ rb rr) (by rw[hrr]; exact(GR rr rb).1)
   rw[bD (by rw[jL ∅]; decide)]
   exact hN HB (aF.refl _)
 ·intro σ H8 hh;obtain⟨u,sp,o7,o8,o9,uv,rfl,esp,au,hW,eB,x8⟩:=(hPv _ _ _).mp hh;rw[bW] at eB;ext;obtain⟨d1,d2,d3⟩:=Af ((List.range L.length).map fun k:Nat=>decide ((k:Int)=(L.length:Int)-1));obtain⟨n,hn⟩:∃n,L.length=n+1:=⟨L.length-1,by have:=List.length_pos_iff.mpr hne; omega⟩
  have ebs:((List.range L.length).map fun k:Nat=>decide ((k:Int)=(L.length:Int)-1))=List.replicate n false++[true]:=by
   rw[hn,yG,iZ]
   congr 1
   ·apply Dj
    ·simp
    ·intro j h1 h2;simp at h1;simp;omega
   ·simp
  refine⟨fG _,fun p9 H9 f9 s9 e9=>⟨_,_,At.lst (s9 _ _ eB) (El _),At.lst e9 ak.nil,by simpa[PyData.hasDict] using d1,⋯,by simpa[PyData.canLay0] using d2,⋯,by show PyData.depthAll _+1<=60; rw[d3]; decide,?_⟩⟩
  rw[ebs];rw[aL (by cases n <;> rfl)]
  have eB9:=s9 _ _ eB;rw[ebs,iZ] at eB9;refine Ix.lst eB9 (v:=.bl true) (Ah _ _) ⟨_,rfl,?_⟩;rw[aL rfl];refine ZD.of eB9 fun p10 Am YM uM e10=>?_;have hcl:nq ((List.replicate n false).map V.bl++[true].map V.bl) none (some (-1))=(List.replicate n false).map V.bl:=Yg;rw[hcl] at e10;refine⟨p10,_,rfl,e10,?_⟩;have:((List.replicate n false).any id)=false:=by simp
  rw[this];exact q Am ((SX.same fB x8).trans (s9.trans uM))
def pairD(e:En):PyData:=.tuple [e.key,.bool true]
theorem aap(e:En):kE e.key=true:=by
 have h1:=pX e.st;have h2:=jz e.sp;unfold En.key Hb;simp only[kE,bJ,h1,h2,Bool.and_true]
theorem Sv(es:List En):bJ (es.map pairD)=true:=cL.mpr fun d hd=>by
 obtain⟨e,_,rfl⟩:=gW.mp hd;have:=aap e;unfold pairD;simp only[kE,bJ,this,Bool.and_true]
theorem J3:∀(kvs acc:List (PyData×V))(d:PyData),(jC (putAll acc kvs) d).isSome=true↔(jC acc d).isSome=true\/d∈kvs.map (·.1)
 | [],acc,d=>by simp[putAll]
 | kv::kvs,acc,d=>by
  show(jC (putAll (putK acc kv.1 kv.2) kvs) d).isSome=true↔_;rw[J3 kvs,Vk,oX,bT];by_cases e:d=kv.1
  ·rw[aL e]; simp[e]
  ·rw[bD e]; simp[e]
def aa6:Sp:=fun vs H Q _=>∃(v cv:V)(l:Addr)(ys:List V)(x:cP)(st:dW)(c:Cv)(n:Nat)(bd lim:Int),vs=[v,cv,.int bd,.ref l]/\At H (gH x) v/\At H (Ii c) cv/\H l=some (.lst ys)/\ak H ((aR x c st n).map j9) ys/\pP x c st (some bd) lim n/\Eo x/\O7 x/\O6 st/\Il c/\cY c (c.map (·.1))<=23/\n<=900 /\
 ∀H',aF H H'->Q (.bl true) H'
theorem xR:a_ ["_law_post","_law_curve_here","_law_bound","_law_entries","_law_met","_law_stand","_law_spare","_law_ahead","_law_last","_law_come","_law_behind","_law_done","_law_away","_law_change","_law_there"] ["_law_post","_law_curve_here","_law_bound","_law_entries"] (aK uK):=(by walk_at "c")
theorem M3(F:jc K "_law_keeps" "_law_keeps" uK f fd)(B:Bi mg)(cV:Ct P w K mg base k "most_next" ["curve","spare"] xH)(Ac:Ct P w K mg base k "_law_beat" ["_law_post","_law_stand","_law_come","_law_free"] FQ)(Yr:Ct P w K mg base k "_law_lean" ["_law_post","_law_stand"] Pu)(lO:Ct P w K mg base k "spares_next" ["curve","spare","come"] V1):bZ P w K mg base iJ (k+1) f fd ["_law_post","_law_curve_here","_law_bound","_law_entries"] aa6:=by
 refine F.ok xR (by rintro vs H Q E ⟨v,cv,l,ys,x,st,c,n,bd,lim,rfl,_⟩; rfl) (0:)
 obtain⟨v,cv,l,ys,x,st,c,n,bd,lim,rfl,a1,a3,hl,hA,D,hx,hxn,hs,hv,hW,hnl,q⟩:=h;have ND:=xR.nd;refine⟨_,(aq (aX (i:=4) (pt (OD hr.units rfl) B.dict aaE (aa (tG (N':=["_law_entry"]) (js:=[]) rfl (iT (K:=K) rfl (pv 3)) Lg.mk0 rfl ⋯ rfl (fun fp s' H'=>(aV (aa (cz eX (pv 0) dC (cN ao)) (aa jX aj))))) aj))) (aq (fZ PassesOwn.never rfl (iT (K:=K) rfl (pv 3)) (bG (K:=K) (n:=4) rfl rfl (aA (aC (i:=5)) (aA (aC (i:=6)) (aA (aC (i:=7)) (aA (aC (i:=8)) bF))))) (aG (fZ PassesOwn.never rfl (jO (by rfl) B.range (aa (aO bK (pf cV hr (aa (pv 1) (aa (pv 6) aj))) ao) aj)) (aC (i:=9)) (aq (cJ (pf Ac hr (aa (pv 0) (aa (pv 5) (aa (pv 9) (aa ao aj))))) (bG (K:=K) (n:=4) rfl rfl (aA (aC (i:=10)) (aA (aC (i:=11)) (aA (aC (i:=12)) (aA (aC (i:=13)) bF)))))) (aq (aX (i:=14) (aV (aa (pf Yr hr (aa (pv 0) (aa (pv 10) aj))) (aa (pf lO hr (aa (pv 1) (aa (pv 6) (aa (pv 9) aj)))) aj)))) (aG (cX (PW.pt (J0 (bj jy (bB aW (pv 10) ao (fun _ _=>rfl)) (pv 2) (bh _)) (J0 (bj jy (pv 12) ao (bh _)) (Gm (bj (Sx hr.units) (pv 14) (pv 4) (by with_unfolding_all rfl)))))) (aG (aZ jX)) bM))))))) (aG (aZ jX)))),?_⟩
 have hlen:(aR x c st n).length=n:=D.hn;have hyl:ys.length=n:=by rw[hA.length,bW,hlen]
 ext;show jr _ _ _ _ _ _;refine Rj (es:=(aR x c st n).map pairD) (fun R hR=>by ext; exact hR) hl (by rw[bW,hlen,hyl]) (jK (bC (by rw[bW,hlen]; omega))) (Sv _) (fun i y e H2 hi he s2 R hR=>?_) (fun acc zs H1 s1 f1 e1 A1=>?_)
 ·have hil:i<(aR x c st n).length:=by rw[hlen,<- hyl]; exact(gC.mp hi).1
  obtain⟨y',y1,y2⟩:=qm hA hil;rw[hi] at y1;cases y1;obtain⟨ea,v1,p2,v3,v4,rfl,g1,g2,g3,_⟩:=mD y2;ext;refine⟨ea,_,rfl,s2 _ _ g1,fun p3 H3 s3 e3=>?_⟩;rw[j_ ⋯] at e3
  refine⟨⋯,fun p4 H4 f4 s4 e4=>hR _ _ (s3.trans s4) ?_⟩
  have ee:e=pairD (fC (aR x c st n) i):=by
   rw[g_,gm hil] at he;cases he;unfold fC;rw[fD,gm hil];rfl
  rw[ee];have Ie:=s2.trans (s3.trans s4);exact At.tup e4 (ak.cons (At.tup (s4 _ _ e3) (ak.cons (g2.mono Ie) (ak.cons (At.tup (Ie _ _ g3) (bI _)) ak.nil))) (ak.cons (by unfold At; rfl) ak.nil))
 have hzl:zs.length=n:=by rw[A1.length,bW,hlen]
 refine⟨acc,zs,(aR x c st n).map (fun e=>(e.key,V.bl true)),rfl,e1,∅,⟨by rw[hzl,bW,hlen],fun i y qq hy hq=>?_⟩,fun m H2 f2 s2 nd2 _=>?_⟩
 ·have A1:=A1.mono fO;obtain⟨d,hd,ad⟩:=A1.get hy;rw[g_] at hd hq;obtain⟨e,he,rfl⟩:=kI.mp hd;rw[he] at hq;cases hq;obtain⟨t,ws,rfl,h1,h2⟩:=bz ad;obtain⟨w0,_,rfl,b0,h2⟩:=ak.bf h2;obtain⟨w1,_,rfl,b1,h2⟩:=ak.bf h2;cases ak.jP h2;unfold At at b1;subst b1;exact⟨t,w0,rfl,h1,zp _ _,b0⟩
 have YL:=s1.trans s2
 obtain⟨kvs,nd2,hkv⟩:∃kvs,nR H2 m kvs/\∀d,(jC kvs d).isSome=true↔d∈(aR x c st n).map En.key:=⟨_,nd2,fun d=>by
  rw[J3,CQ];have e1:(jC ([]:List (PyData×V)) d).isSome=true↔False:=by simp[jC]
  rw[e1,false_or]
  exact kO⟩
 rw[nW];ext;obtain⟨Pv,hPv⟩:∃Pv:Nat->St->Hp->Prop,∀i σ H',Pv i σ H'↔(∃(o5 o6 o7 o8 o9 uv GF o12 WY WX:Option V),σ=[some v,some cv,some (.int bd),some (.ref l),some (.ref m),o5,o6,o7,o8,o9,uv,GF,o12,WY,WX]/\aF H2 H'):=⟨_,fun _ _ _=>kO⟩;refine LK.of (YL _ _ hl) Pv ((hPv _ _ _).mpr ⟨_,_,_,_,_,_,_,_,_,_,rfl,aF.refl _⟩) (fun i σ H' _ hh=>?_) ?_ ?_
 ·obtain⟨_,_,_,_,_,_,_,_,_,_,_,z⟩:=(hPv _ _ _).mp hh;exact(YL.trans z) _ _ hl
 ·intro i y σ H3 hy hh;obtain⟨o5,o6,o7,o8,o9,uv,GF,o12,WY,WX,rfl,s3⟩:=(hPv _ _ _).mp hh;have hi:i<n:=by rw[<- hyl]; exact(gC.mp hy).1
  have hin:i<(aR x c st n).length:=by rw[hlen]; exact hi
  obtain⟨y',y1,y2⟩:=qm hA hin;rw[hy] at y1;cases y1;obtain⟨ea,w1,w2,w3,w4,rfl,h1,h2,h3,h4⟩:=mD y2;have hE:=wR hx.is hv hs.is n _ (qp hin).1;have hcm:=abx hE hW;have hWe:=(aeZ (cv:=c) (b:=max (max st.w x.m) 0) hx hs ∅ ∅ ∅ n _ (qp hin).1).1
  have Zo:=YL.trans s3;obtain⟨g1,g2⟩:=Xj hlen hi;refine⟨ea,_,rfl,cB.of (Zo _ _ h1),rfl,?_⟩;ext;rw[Ja];ext;refine⟨_,c,w2,_,rfl,a3.mono Zo,Zo _ _ h3,hE.sl,hv.ne,by have:=hv.n; omega,fun H4 s4=>?_⟩
  have hm0:=QH hv hE.sl hE.nn;have ecm:cY c (fC (aR x c st n) i).sp+1=((uw c (fC (aR x c st n) i):Nat):Int):=by unfold uw; omega
  have Ie:=s3.trans s4
  try dsimp only
  refine⟨_,_,rfl,rfl,?_⟩;obtain⟨Pw,XN⟩:∃Pw:Nat->St->Hp->Prop,∀j σ H',Pw j σ H'↔(∃(o9 uv GF o12 WY WX:Option V),σ=[some v,some cv,some (.int bd),some (.ref l),some (.ref m),some w1,some (.ref w2),some w3,some w4,o9,uv,GF,o12,WY,WX]/\aF H2 H'):=⟨_,fun _ _ _=>kO⟩;refine FK.of (n:=uw c (fC (aR x c st n) i)) ecm ∅ Pw ((XN _ _ _).mpr ⟨_,_,_,_,_,_,rfl,Ie⟩) ?_ ?_
  ·intro j σ H5 hj hh5;obtain⟨o9,uv,GF,o12,WY,WX,rfl,s5⟩:=(XN _ _ _).mp hh5;have Li:=YL.trans s5;ext;rw[Int.zero_add];refine⟨v,w1,x,(fC (aR x c st n) i).st,(j:Int),rfl,a1.mono Li,h2.mono Li,hx,hWe,fun p6 u6 H6 s6 b6 e6=>⟨p6,_,rfl,cB.of e6,rfl,?_⟩⟩;ext;have YK:=Li.trans s6;refine⟨v,u6,x,_,rfl,a1.mono YK,b6,hx,tM hx.is hE.st,fun u7 H7 s7 b7=>⟨cv,c,w2,_,(j:Int),rfl,a3.mono (YK.trans s7),(YK.trans s7) _ _ h3,hE.sl,hv.ne,by have:=hv.n; omega,by unfold uw at hj; omega,fun p8 H8 s8 e8=>⟨⋯,fun p9 H9 f9 s9 e9=>?_⟩⟩⟩
   have s69:=s7.trans (s8.trans s9);have b6':=b6.mono s69;obtain⟨sa,sb,sc,rfl,k1,_⟩:=iu b6';have hb:=D.hb i j (.inl hi) g1 (by rw[<- g2]; exact hj)
   rw[<- g2] at hb
   have hb1:¬bd<(iw x (fC (aR x c st n) i).st j).w/\¬0<(j:Int)-bU x (fC (aR x c st n) i).st j:=by
    unfold Uq at hb;simp only[Bool.or_eq_false_iff,decide_eq_false_iff_not] at hb;exact hb
   refine Ix.tup k1 (v:=.int (iw x (fC (aR x c st n) i).st j).w) rfl ⟨_,_,rfl,rfl,?_⟩;rw[bD (by rw[jL hb1.1]; decide),bD (by rw[jL hb1.2]; decide)]
   have s29:=s5.trans (s6.trans s69);have Xn:(jC kvs (Hb (fU x (iw x (fC (aR x c st n) i).st j)) (fJ c (fC (aR x c st n) i).sp j))).isSome=true:=(hkv _).mpr (Oi (q:=i) hlen hi hj);refine⟨m,kvs,Hb (fU x (iw x (fC (aR x c st n) i).st j)) (fJ c (fC (aR x c st n) i).sp j),rfl,nd2.same s29,⟨zp _ _,At.tup e9 (ak.cons (b7.mono (s8.trans s9)) (ak.cons (At.tup (s9 _ _ e8) (bI _)) ak.nil))⟩,?_⟩;rw[Xn,bD ⋯]
   exact(XN _ _ _).mpr ⟨_,_,_,_,_,_,rfl,s29⟩
  ·intro σ H5 hh5;obtain⟨o9,uv,GF,o12,WY,WX,rfl,s5⟩:=(XN _ _ _).mp hh5;exact(hPv _ _ _).mpr ⟨_,_,_,_,_,_,_,_,_,_,rfl,s5⟩
 ·intro σ H3 hh;obtain⟨o5,o6,o7,o8,o9,uv,GF,o12,WY,WX,rfl,s3⟩:=(hPv _ _ _).mp hh;ext;exact q H3 (YL.trans s3)
section
variable{x:cP}{c:Cv}{st:dW}
noncomputable def mZ(x:cP)(c:Cv)(st:dW)(n p:Nat):List Int:=eZ (aR x c st n) (aR x c st n).length p
theorem oZ{n:Nat}:mZ x c st n 0=[]:=Ss
theorem o_{n p q:Nat}{cc:Int}(hp:p<(aR x c st n).length)(e:(fC (aR x c st n) p).fr=some (q,cc)):q<p/\mZ x c st n p=mZ x c st n q++[cc]:=by
 have hq:q<p:=rB n p q cc hp e;refine⟨hq,?_⟩
 have gen:∀f,f=(aR x c st n).length->eZ (aR x c st n) f p=eZ (aR x c st n) f q++[cc]:=fun f hf=>by
  obtain⟨m,rfl⟩:∃m,f=m+1:=⟨f-1,∅⟩
  conv=>lhs; unfold eZ
  rw[e];show eZ (aR x c st n) m q++[cc]=_;rw[uW (rB n) q m (m+1) ∅ ∅ ∅]
 exact gen _ rfl
theorem Ro{n q:Nat}(h:q<=n)(hq:q<(aR x c st q).length):fC (aR x c st n) q=fC (aR x c st q) q:=by
 obtain⟨r,hr⟩:=jN (x:=x) (cv:=c) (st:=st) q (n-q);rw[show q+(n-q)=n by omega] at hr
 rw[hr,jo hq]
theorem Wn{n:Nat}(hx:nQ x)(hN:O7 x)(hs:iY st):∀p,p<(aR x c st n).length->p<=n->fU x (dU x st (mZ x c st n p))=(fC (aR x c st n) p).st:=by
 intro p
 induction p using Nat.strongRecOn with
 | _ p ih=>
  intro hp hpn;by_cases p0:p=0
  ·subst p0;rw[oZ];obtain⟨r,hr⟩:=jN (x:=x) (cv:=c) (st:=st) 0 n;rw[Aw] at hr;rw[hr,jo (by simp[aR])]
   rfl
  ·obtain⟨q,cc,k1,k2,k3⟩:=m7 (x:=x) (c:=c) (st:=st) n p ∅ hp
   obtain⟨b1,b2⟩:=o_ hp (by rw[k3]; rfl)
   have qe:=Ro (n:=n) (show q<=n by omega) k1
   rw[b2,fX,k3];have g:=KH hN (pO hx hs) (tW (pO hx hs)) (Dw x (dU x st (mZ x c st n q))).symm cc 12;show fU x (iw x _ _)=fU x (iw x (fC (aR x c st q) q).st cc);rw[<- qe,<- ih q b1 ∅ ∅]
   exact g.2.2.2
theorem Kr{n p cc:Nat}(hx:nQ x)(hN:O7 x)(hs:iY st)(hp:p<(aR x c st n).length)(hpn:p<=n) :
  (dU x st (mZ x c st n p++[(cc:Int)])).w=(Ur x (fC (aR x c st n) p) cc).w/\(cc:Int)-bU x (dU x st (mZ x c st n p)) cc=Ld x (fC (aR x c st n) p) cc:=by
 have e:=Wn (c:=c) hx hN hs p hp hpn;have g:=KH hN (pO hx hs) (tW (pO hx hs)) (Dw x (dU x st (mZ x c st n p))).symm cc 12;refine⟨?_,?_⟩
 ·rw[fX];show _=(fU x (iw x (fC (aR x c st n) p).st cc)).w;rw[<- e];have h:=jF dW.w g.2.2.2;exact h
 ·show _=(cc:Int)-bU x (fC (aR x c st n) p).st cc;rw[<- e,<- g.1]
theorem Qn{n:Nat}:∀p,p<(aR x c st n).length->p<=n->jJ c (mZ x c st n p)=(fC (aR x c st n) p).sp:=by
 intro p
 induction p using Nat.strongRecOn with
 | _ p ih=>
  intro hp hpn;by_cases p0:p=0
  ·subst p0;rw[oZ];obtain⟨r,hr⟩:=jN (x:=x) (cv:=c) (st:=st) 0 n;rw[Aw] at hr;rw[hr,jo (by simp[aR])]
   rfl
  ·obtain⟨q,cc,k1,k2,k3⟩:=m7 (x:=x) (c:=c) (st:=st) n p ∅ hp
   obtain⟨b1,b2⟩:=o_ hp (by rw[k3]; rfl)
   have qe:=Ro (n:=n) (show q<=n by omega) k1
   rw[b2,Je,k3,ih q b1 ∅ ∅,qe]
   rfl
theorem ZF{n:Nat}:∀p,p<(aR x c st n).length->p<=n->∀k,k<(mZ x c st n p).length->(mZ x c st n p).getD k 0<=cY c (jJ c ((mZ x c st n p).take k)):=by
 intro p
 induction p using Nat.strongRecOn with
 | _ p ih=>
  intro hp hpn k hk;have p0:p≠0:=fun e=>by rw[e,oZ] at hk; simp at hk
  obtain⟨q,cc,k1,k2,k3⟩:=m7 (x:=x) (c:=c) (st:=st) n p ∅ hp
  obtain⟨b1,b2⟩:=o_ hp (by rw[k3]; rfl)
  have qe:=Ro (n:=n) (show q<=n by omega) k1
  rw[b2] at hk ⊢;rw[c7] at hk;have hk:k<(mZ x c st n q).length+1:=hk;by_cases z:k<(mZ x c st n q).length
  ·rw[Bd ∅,fD,v8 z,<- fD]
   exact ih q b1 ∅ ∅ k z
  ·have e:k=(mZ x c st n q).length:=by omega
   subst e;rw[Bd (dM _),mY,fD,tE (dM _),tu,Qn q ∅ ∅,qe]
   show(cc:Int)<=_;unfold uw at k2;omega
theorem Wo{P CC:Nat}{bd lim:Int}(hx:nQ x)(hN:O7 x)(hs:iY st)(Bk:pR x c st (some bd) lim P CC):∀p,p<=P->∀k,k<(mZ x c st P p).length ->
  (decide ((dU x st ((mZ x c st P p).take (k+1))).w>bd) || decide ((mZ x c st P p).getD k 0-bU x (dU x st ((mZ x c st P p).take k)) ((mZ x c st P p).getD k 0)>0))=false:=by
 intro p
 induction p using Nat.strongRecOn with
 | _ p ih=>
  intro hpP k hk;have hPl:=Bk.hp;have p0:p≠0:=fun e=>by rw[e,oZ] at hk; simp at hk
  obtain⟨q,cc,k1,k2,k3⟩:=m7 (x:=x) (c:=c) (st:=st) P p ∅ ∅
  obtain⟨b1,b2⟩:=o_ (x:=x) (c:=c) (st:=st) (n:=P) (p:=p) ∅ (by rw[k3]; rfl)
  have qe:=Ro (n:=P) (show q<=P by omega) k1
  rw[b2] at hk ⊢;rw[c7] at hk;have hk:k<(mZ x c st P q).length+1:=hk;by_cases z:k<(mZ x c st P q).length
  ·rw[Bd ∅,Bd ∅,fD,v8 z,<- fD]
   exact ih q b1 ∅ k z
  ·have e:k=(mZ x c st P q).length:=by omega
   subst e;obtain⟨g1,g2⟩:=Kr (c:=c) (cc:=cc) (n:=P) (p:=q) hx hN hs ∅ ∅
   rw[JZ (by rw[c7]; exact dM _),Bd (dM _),mY,fD,tE (dM _),tu]
   show(decide ((dU x st (mZ x c st P q++[(cc:Int)])).w>bd) || decide ((cc:Int)-bU x (dU x st (mZ x c st P q)) cc>0))=false;rw[g1,g2,qe];exact Bk.hb q cc (.inl ∅) k1 k2
theorem aaG{P CC:Nat}{b:Option Int}{lim:Int}(Bk:pR x c st b lim P CC):nH x c st P CC=mZ x c st P P++[(CC:Int)]:=by
 unfold nH mZ
 obtain⟨r,hr⟩:∃r,cT x c st P CC=aR x c st P++r:=by
  obtain⟨r,hr⟩:=qb (x:=x) (c:=c) (st:=st) P 0 CC;rw[Aw] at hr;exact⟨r,hr⟩
 have hP:=Bk.hp;rw[hr,Ka (rB P) _ _ hP,uW (rB P) P _ (aR x c st P).length hP (by rw[c7]; omega) hP]
theorem La{P CC:Nat}{bd lim:Int}(hx:nQ x)(hN:O7 x)(hs:iY st)(hlim:lim<=900)(Bk:pR x c st (some bd) lim P CC) :
  nH x c st P CC≠[]/\(nH x c st P CC).length<=900 /\
  (∀k,k<(nH x c st P CC).length->(nH x c st P CC).getD k 0<=cY c (jJ c ((nH x c st P CC).take k))) /\
  (∀k,k<(nH x c st P CC).length->(decide ((dU x st ((nH x c st P CC).take (k+1))).w>bd) || decide ((nH x c st P CC).getD k 0-bU x (dU x st ((nH x c st P CC).take k)) ((nH x c st P CC).getD k 0)>0))=decide ((k:Int)=((nH x c st P CC).length:Int)-1)):=by
 have hPl:=Bk.hp;have hll:=Bk.hl;have hpl:(aR x c st P).length<=(cT x c st P CC).length:=tH;rw[aaG Bk];have hl:(mZ x c st P P++[(CC:Int)]).length=(mZ x c st P P).length+1:=by rw[c7]; rfl
 have hlp:(mZ x c st P P).length<=P:=by
  have:∀p,p<(aR x c st P).length->p<=P->(mZ x c st P p).length<=p:=by
   intro p
   induction p using Nat.strongRecOn with
   | _ p ih=>
    intro hp hpP;by_cases p0:p=0
    ·subst p0; rw[oZ]; exact dM _
    ·obtain⟨q,cc,k1,k2,k3⟩:=m7 (x:=x) (c:=c) (st:=st) P p ∅ hp
     obtain⟨b1,b2⟩:=o_ hp (by rw[k3]; rfl)
     have:=ih q b1 ∅ ∅
     rw[b2,c7];show _+1<=p;omega
  exact this P hPl (dM _)
 refine⟨by simp,by rw[hl]; omega,fun k hk=>?_,fun k hk=>?_⟩
 ·rw[hl] at hk;by_cases z:k<(mZ x c st P P).length
  ·rw[Bd ∅,fD,v8 z,<- fD]
   exact ZF P hPl (dM _) k z
  ·have e:k=(mZ x c st P P).length:=by omega
   subst e;rw[Bd (dM _),mY,fD,tE (dM _),tu,Qn P hPl (dM _)];show(CC:Int)<=_;have:=Bk.hc;unfold uw at this;omega
 ·rw[hl] at hk;by_cases z:k<(mZ x c st P P).length
  ·rw[jL (show ¬((k:Int)=((mZ x c st P P++[(CC:Int)]).length:Int)-1) by rw[hl]; omega)]
   rw[Bd ∅,Bd ∅,fD,v8 z,<- fD]
   exact Wo hx hN hs Bk P (dM _) k z
  ·have e:k=(mZ x c st P P).length:=by omega
   rw[ju (show(k:Int)=((mZ x c st P P++[(CC:Int)]).length:Int)-1 by rw[hl]; omega)]
   subst e;obtain⟨g1,g2⟩:=Kr (c:=c) (cc:=CC) (n:=P) (p:=P) hx hN hs hPl (dM _);rw[JZ (by rw[hl]; exact dM _),Bd (dM _),mY,fD,tE (dM _),tu]
   show(decide ((dU x st (mZ x c st P P++[(CC:Int)])).w>bd) || decide ((CC:Int)-bU x (dU x st (mZ x c st P P)) CC>0))=true;rw[g1,g2];exact Bk.hk
end
theorem FS.one{x:cP}{c:Cv}{bd lim:Int}{k:Nat}{ds ds':List (List Int)}(h:FS x c bd lim k ds)(h':FS x c bd lim k ds'):ds=ds':=by
 apply List.ext_getElem?
 intro i;by_cases hi:i<k
 ·obtain⟨p,cc,b1,b2⟩:=h.2 i hi;obtain⟨p',Ij,b1',b2'⟩:=h'.2 i hi;obtain⟨e1,e2⟩:=aaH b1 b1';rw[b2,b2',e1,e2]
 ·rw[Mu (by rw[h.1]; omega),Mu (by rw[h'.1]; omega)]
theorem YF.one{x:cP}{c:Cv}{bd lim:Int}{d d':PyData}(h:YF x c bd lim d)(h':YF x c bd lim d'):d=d':=by
 have r:=sZ lim
 have at':∀{k:Nat}{ds:List (List Int)},FS x c bd lim k ds->∀i,i<k->(∀{n},pP (wm x (x.lo+(i:Nat))) c (st0 x) (some bd) lim n->False)/\(∀{p cc},vy (wm x (x.lo+(i:Nat))) c (st0 x) (some bd) lim p cc->False):=fun {k ds} hF i hi=>by
  obtain⟨p,cc,b1,_⟩:=hF.2 i hi;exact⟨fun D=>Yb D b1,fun M=>Yt b1 M r⟩
 cases h with
 | kept k n ds hF hk D=>
  cases h' with
  | kept k' n' ds' hF' hk' D'=>
   have ek:k=k':=by
    rcases Dm k k' with z | z | z
    ·exact((at' hF' k z).1 D).elim
    ·exact z
    ·exact((at' hF k' z).1 D').elim
   subst ek;rw[hF.one hF',done_one D.hn D'.hn]
  | none k' ds' hF' hk'=>exact((at' hF' k ∅).1 D).elim
  | many k' p cc ds' hF' hk' M=>
   rcases Dm k k' with z | z | z
   ·exact((at' hF' k z).1 D).elim
   ·subst z; exact(Kh D M (.inl r)).elim
   ·exact((at' hF k' z).2 M).elim
 | none k ds hF hk=>
  cases h' with
  | kept k' n' ds' hF' hk' D'=>exact((at' hF k' ∅).1 D').elim
  | none k' ds' hF' hk'=>
   have ek:k=k':=by omega
   subst ek;rw[hF.one hF']
  | many k' p cc ds' hF' hk' M=>exact((at' hF k' ∅).2 M).elim
 | many k p cc ds hF hk M=>
  cases h' with
  | kept k' n' ds' hF' hk' D'=>
   rcases Dm k' k with z | z | z
   ·exact((at' hF k' z).1 D').elim
   ·subst z; exact(Kh D' M (.inl r)).elim
   ·exact((at' hF' k z).2 M).elim
  | none k' ds' hF' hk'=>exact((at' hF' k ∅).2 M).elim
  | many k' p' Ij ds' hF' hk' M'=>rfl
theorem Wq(x:cP):kE (gH x)=true:=by
 have h:bJ (x.cQ.map sX)=true:=cL.mpr fun d hd=>by obtain⟨z,_,rfl⟩:=gW.mp hd; exact Js z
 unfold gH Wt qT;simp only[kE,bJ,h,Bool.and_true,Bool.true_and]
def aen:Sp:=fun vs H Q _=>∃(v cv:V)(x:cP)(c:Cv)(bd lim:Int),vs=[v,cv,.int bd,.int lim]/\At H (gH x) v/\At H (Ii c) cv/\Eo x/\Il c/\cY c (c.map (·.1))<=23/\0<=lim/\lim<=800/\∀H',(∃S,(∀b∈S,H b=none)/\BJ S H H')->Q (.bl true) H'
theorem xQ:a_ ["_law_post","_law_curve_here","_law_bound","_law_limit","_law_found","_law_due","_law_many","_law_entries","_law_loads","_law_least","_law_k","_law_load","_law_fewer","_law_enough"] ["_law_post","_law_curve_here","_law_bound","_law_limit"] (aK uJ):=(by walk_at "c")
theorem YF.sd{x:cP}{c:Cv}{bd lim:Int}{d:PyData}(hx:Eo x)(hv:Il c)(hl:lim<=900)(h:YF x c bd lim d):SD 7 d:=by
 have aeY:∀{k:Nat}{ds:List (List Int)},FS x c bd lim k ds->k<=20->x.lo+(k:Nat)<=x.hi+1->SD 6 (Ks ds):=fun {k ds} hF hk hkh=>SD.lst (by rw[bW,hF.1]; omega) fun e he=>by
  obtain⟨L,hL,rfl⟩:=gW.mp he;obtain⟨i,hi⟩:=Ba.mp hL;have hik:i<k:=by rw[<- hF.1]; exact(gC.mp hi).1
  obtain⟨p,cc,b1,b2⟩:=hF.2 i hik;rw[hi] at b2;cases b2;have KC:=hx.wm (m:=x.lo+(i:Nat)) ∅ (by have:=hx.hi; omega)
  have hb:=(La KC.is (yK KC) (qN x) hl b1).2.1;refine SD.lst (by rw[bW]; omega) fun e he=>?_
  obtain⟨j,_,rfl⟩:=gW.mp he;exact SD.int j
 have hlo:=hx.lo;have hhi:=hx.hi
 have three:∀{a b e:PyData},SD 6 a->SD 6 b->SD 6 e->SD 7 (.tuple [a,b,e]):=fun ha hb he=>SD.tup (by show 3<=1000; decide) fun y hy=>by
  rcases bT.mp hy with rfl | hy
  ·exact ha
  ·rcases bT.mp hy with rfl | hy
   ·exact hb
   ·rcases bT.mp hy with rfl | hy
    ·exact he
    ·cases hy
 cases h with
 | kept k n ds hF hk D=>
  have KC:=hx.wm (m:=x.lo+(k:Nat)) ∅ ∅
  exact three (SD.int _) (SD.ents (n:=0) hv (by rw[D.hn]; have:=D.hl; omega) (wR KC.is hv (qN x) n)) (aeY hF ∅ ∅)
 | none k ds hF hk=>exact three SD.none SD.none (aeY hF ∅ ∅)
 | many k p cc ds hF hk M=>exact SD.str (by decide +kernel)
theorem aek{x:cP}(hx:Eo x):O6 (st0 x):=⟨qN x,hx.lo.1,fun y hy=>by
  have:y=0:=by
   simp only[st0,bT,jW,or_false,or_self] at hy;exact hy
  omega,by have h1:=hx.lo; have h2:=hx.hi; show x.lo+0<=12; omega,sZ 0⟩
theorem O8{x:cP}{ad Yu cd dd:Addr}{m:Int}{H:Hp}{Q:VK}(m1:H ad=some (.tup [.int x.p,.int x.m,.ref Yu,.int x.a,.int x.e,.ref cd,.ref dd]))(m3:At H (.tuple [.int x.u,.int x.d]) (.ref cd))(m4:At H (qT x.cQ) (.ref dd))
  (q:∀p H',aF H H'->At H' (gH (wm x m)) (.ref p)->Q (.ref p) H'):acd (V.ref ad) none (some 2) H fun x_1 H1=>
  2<=sizeLine /\
   ∀(p:Addr)(H':Hp),
    H1 p=none ->
     aF H1 H' ->
      H' p=some (HO.tup [V.int x.lo,V.int m]) ->
       1<=sizeLine /\
        ∀(p_1:Addr) (adh:Hp),
         H' p_1=none ->
          aF H' adh ->
           adh p_1=some (HO.tup [V.ref p]) ->
            We x_1 (V.ref p_1) adh fun x_2 H1=>
             acd (V.ref ad) (some 3) none H1 fun y H2=>
              We x_2 y H2 Q:=by
 refine⟨ad,_,rfl,m1,fun p1 G1 z1 g1=>?_⟩;rw[j_ ⋯] at g1
 refine⟨⋯,fun p2 G2 w2 z2 g2=>⟨⋯,fun p3 G3 w3 z3 g3=>?_⟩⟩
 have Vc:=z2.trans z3;refine⟨p1,p3,_,_,rfl,rfl,Vc _ _ g1,g3,(show 3<=sizeLine by decide),fun p4 G4 z4 g4=>?_⟩
 have Vb:=Vc.trans z4;refine⟨ad,_,rfl,(z1.trans Vb) _ _ m1,fun p5 G5 z5 g5=>?_⟩;rw[kj ⋯] at g5
 refine⟨p4,p5,_,_,rfl,rfl,z5 _ _ g4,g5,(show 7<=sizeLine by decide),fun p6 G6 z6 g6=>?_⟩
 have zz:=z1.trans (Vb.trans (z5.trans z6));exact q p6 G6 zz (Vi g6 ((z3.trans (z4.trans (z5.trans z6))) _ _ g2) (m3.mono zz) (m4.mono zz))
theorem MT(F:jc K "_law_right" "_law_right" uJ f fd)(B:Bi mg)(nM:Ct P w K mg base k "_law_told_fewest" ["_law_post","_law_curve_here","_law_bound","_law_limit"] VL)(Ab:Ct P w K mg base k "_law_fewest_due" ["_law_post","_law_curve_here","_law_bound","_law_limit"] VL)(uh:Ct P w K mg base k "_law_same" ["_law_found","_law_due"] (RW 7))(O2:Ct P w K mg base k "_law_breaks" ["_law_post","_law_curve_here","_law_bound","_law_load"] V2)(Uo:Ct P w K mg base k "_law_keeps" ["_law_post","_law_curve_here","_law_bound","_law_entries"] aa6)(rM:Ct P w K mg base k "_law_marked" ["_law_thing"] (RX 7)):bZ P w K mg base iJ (k+1) f fd ["_law_post","_law_curve_here","_law_bound","_law_limit"] aen:=by
 refine F.ok xQ (by rintro vs H Q E ⟨v,cv,x,c,bd,lim,rfl,_⟩; rfl) (0:)
 obtain⟨v,cv,x,c,bd,lim,rfl,a1,a3,hx,hv,hW,hl1,hl2,q⟩:=h;have ND:=xQ.nd;refine⟨_,(aq (aX (i:=4) (pf nM hr (aa (pv 0) (aa (pv 1) (aa (pv 2) (aa (pv 3) aj)))))) (aq (aX (i:=5) (pf Ab hr (aa (pv 0) (aa (pv 1) (aa (pv 2) (aa (pv 3) aj)))))) (aq (cX (Gp (fY (pf uh hr (aa (pv 4) (aa (pv 5) aj))))) (aG (aZ jX)) bM) (aq (cX (fY (pb wX B.isinstance bu (aa (pv 5) (aa (pty (by rfl) B.str HJ) aj)))) (aG (aZ jX)) bM) (aq (cJ (pv 4) (bG (K:=K) (n:=3) rfl rfl (aA (aC (i:=6)) (aA (aC (i:=7)) (aA (aC (i:=8)) bF))))) (aq (aX (i:=9) (bB aW (bB aW (pv 0) ao (fun _ _=>rfl)) ao (fun _ _=>rfl))) (aq (fZ PassesOwn.never rfl (Qt (K:=K) rfl B.enumerate (aa (pv 8) aj)) (bG (K:=K) (n:=2) rfl rfl (aA (aC (i:=10)) (aA (aC (i:=11)) bF))) (aq (aX (i:=12) (aO jn (aO jn (cz eX (pv 0) dC (cN ao)) (aV (aa (aV (aa (pv 9) (aa (aO bK (pv 9) (pv 10)) aj))) aj))) (cz eX (pv 0) (cN ao) dC))) (aG (cX (Gp (fY (pf O2 hr (aa (pv 12) (aa (pv 1) (aa (pv 2) (aa (pv 11) aj))))))) (aG (aZ jX)) bM)))) (aq (cX (bj qd (pv 6) d9 (bh _)) (aq (aX (i:=13) (aO jn (aO jn (cz eX (pv 0) dC (cN ao)) (aV (aa (aV (aa (pv 9) (aa (pv 6) aj))) aj))) (cz eX (pv 0) (cN ao) dC))) (aG (cX (Gp (fY (pf Uo hr (aa (pv 13) (aa (pv 1) (aa (pv 2) (aa (pv 7) aj))))))) (aG (aZ jX)) bM))) bM) (aq (eQ (pf rM hr (aa (pv 4) aj))) (aG (aZ (pf uh hr (aa (pf nM hr (aa (pv 0) (aa (pv 1) (aa (pv 2) (aa (pv 3) aj))))) (aa (pv 5) aj)))))))))))))),?_⟩
 simp only[Jo];ext;refine⟨v,cv,x,c,bd,lim,rfl,a1,a3,hx,hv,hW,hl1,∅,fun d v1 S1 H1 hF1 s1 hT1 nd1 fr1=>?_⟩
 refine⟨v,cv,x,c,bd,lim,rfl,a1.mono s1,a3.mono s1,hx,hv,hW,hl1,∅,fun d2 v2 S2 H2 hF2 s2 hT2 nd2 fr2=>?_⟩
 have ed:=hF1.one hF2;subst ed;have sd:=hF1.sd hx hv ∅
 have hT1':=hT1.mono s2;refine eV.on (fun H3 s3=>?_) fun N hN=>?_
 ·obtain⟨ad,Yu,cd,dd,rfl,m1,m2,m3,m4⟩:=my a1;have pY:=s2.trans s3;have Zo:=s1.trans pY;have at2:=Tr.at _ _ _ (hT2.mono s3);have at1:=Tr.at _ _ _ (hT1.mono pY)
  have fin:∀H5,aF H3 H5->RX 7 [v1] H5 (fun _ H6=>VL [.ref ad,cv,.int bd,.int lim] H6 (fun v3 H7=>RW 7 [v3,v2] H7 (fun r H8=>Q r H8) E0) E0) E0:=fun H5 s5=>by
   have CP:=pY.trans s5;have Li:=s1.trans CP;have hS:∀b∈S1,∃xs,H5 b=some (.lst xs):=Tr.tR _ _ _ (hT1.mono CP)
   have dis:∀b∈S2,b∉S1:=fun b hb h1=>by
    obtain⟨xs,e⟩:=Tr.tR _ _ _ hT1 b h1;rw[fr2 b hb] at e; cases e
   refine⟨v1,d,S1,rfl,sd,hT1.mono CP,nd1,fun H6 x6=>?_⟩;have b1:At H6 (gH x) (.ref ad):=((At.qw hS (Wq x) (a1.mono Li)).mono x6.hid).mono zE;have b3:At H6 (Ii c) cv:=((At.qw hS (show kE (Ii c)=true from ac0 c) (a3.mono Li)).mono x6.hid).mono zE;have air:At H6 d v2:=((Tr.qw hS dis (hT2.mono (s3.trans s5))).mono x6.hid).mono zE;refine⟨_,cv,x,c,bd,lim,rfl,b1,b3,hx,hv,hW,hl1,∅,fun d3 v3 S3 H7 hF3 s7 hT3 nd3 fr3=>?_⟩
   have e3:=hF1.one hF3;subst e3;refine Sm.of (Tr.at _ _ _ hT3) (air.mono s7) sd ⋯ fun H8 s8=>q H8 ⟨S1,fr1,?_⟩
   exact(BJ.of Li).trans (x6.trans (BJ.of (s7.trans s8)))
  obtain rfl | ⟨k,ds,e0,e1,rfl,hFS,hk,hkd⟩:d=.str "many" \/ ∃(k:Nat)(ds:List (List Int))(e0 e1:PyData),d=.tuple [e0,e1,Ks ds]/\FS x c bd lim k ds/\x.lo+(k:Nat)<=x.hi+1/\(e0=.none\/∃n,e0=.int (x.lo+(k:Nat))/\x.lo+(k:Nat)<=x.hi/\e1=.list ((aR (wm x (x.lo+(k:Nat))) c (st0 x) n).map j9)/\pP (wm x (x.lo+(k:Nat))) c (st0 x) (some bd) lim n):=by
   cases hF1 with
   | kept k n ds hF hk D=>exact .inr ⟨k,ds,_,_,rfl,hF,∅,.inr ⟨n,rfl,hk,rfl,D⟩⟩
   | none k ds hF hk=>exact .inr ⟨k,ds,_,_,rfl,hF,∅,.inl rfl⟩
   | many k p cc ds hF hk M=>exact .inl rfl
  ·refine eV.open ?_;ext;refine⟨v2,_,rfl,at2,_,rfl,?_⟩;rw[aL (show isStr (PyData.str "many")=true from rfl)];exact q H3 ⟨[],fun b hb=>(by cases hb),BJ.of Zo⟩
  refine eV.open ?_;ext;refine⟨v2,_,rfl,at2,_,rfl,?_⟩;rw[bD (by exact mj)]
  obtain⟨ta,ts,rfl,ht,hts⟩:=bz at1;obtain⟨w0,r0,rfl,h0,hr0⟩:=ak.bf hts;obtain⟨w1,r1,rfl,h1,hr1⟩:=ak.bf hr0;obtain⟨w2,r2,rfl,h2,hr2⟩:=ak.bf hr1;cases ak.jP hr2;obtain⟨la,ls,rfl,hla,hls⟩:=tU h2;refine⟨ta,_,rfl,cB.of ht,rfl,?_⟩;ext;refine⟨ad,_,2,_,rfl,rfl,.inr (Zo _ _ m1),rfl,⟨Yu,_,0,_,rfl,rfl,.inr (Zo _ _ m2),rfl,?_⟩⟩;ext;rw[Cd];ext;obtain⟨Pv,hPv⟩:∃Pv:Nat->St->Hp->Prop,∀i σ H',Pv i σ H'↔(∃o1 o2 o3 o4:Option V,σ=[some (.ref ad),some cv,some (.int bd),some (.int lim),some (.ref ta),some v2,some w0,some w1,some (.ref la),some (.int x.lo),o1,o2,o3,o4]/\aF H3 H'):=⟨_,fun _ _ _=>kO⟩;have hll:ls.length=k:=by rw[hls.length,bW,hFS.1]
  refine EK.of hla Pv ((hPv _ _ _).mpr ⟨_,_,_,_,rfl,aF.refl _⟩) (fun i σ H' _ hh=>?_) ?_ ?_
  ·obtain⟨_,_,_,_,_,s'⟩:=(hPv _ _ _).mp hh;exact s' _ _ hla
  ·intro i y σ H4 pp hy hh fp;obtain⟨o1,o2,o3,o4,rfl,s4⟩:=(hPv _ _ _).mp hh;have hi:i<k:=by rw[<- hll]; exact(gC.mp hy).1
   obtain⟨dd2,hdd,hay⟩:=hls.get hy;obtain⟨p,cc,b1,b2⟩:=hFS.2 i hi;rw[g_,b2] at hdd;cases hdd;obtain⟨ba,bs,rfl,hba,hbs⟩:=tU hay;have ebs:=cG hbs;subst ebs;have s4':aF H4 (upd H4 pp (.tup [.int (i:Nat),.ref ba])):=(aF.refl _).kY fp;refine⟨pp,_,rfl,cB.of aD,rfl,?_⟩;ext;have Li:=Zo.trans (s4.trans s4');have KC:=hx.wm (m:=x.lo+(i:Nat)) ∅ (by have:=hx.hi; omega)
   refine O8 (Li _ _ m1) (m3.mono Li) (m4.mono Li) fun pw H6 s6 aw=>?_;have YK:=Li.trans s6;have bo:=La KC.is (yK KC) (qN x) (show lim<=900 by omega) b1
   refine⟨.ref pw,cv,ba,wm x (x.lo+(i:Nat)),c,bd,_,rfl,aw,a3.mono YK,KC,hv,((s4.trans s4').trans s6) _ _ hba,bo.2.1,bo.1,bo.2.2.1,bo.2.2.2,fun H7 s7=>⟨_,rfl,?_⟩⟩;rw[bD ⋯]
   exact(hPv _ _ _).mpr ⟨_,_,_,_,rfl,s4.trans (s4'.trans (s6.trans s7))⟩
  ·intro σ H4 hh;obtain⟨o1,o2,o3,o4,rfl,s4⟩:=(hPv _ _ _).mp hh;have s04:=Zo.trans s4;rcases hkd with rfl | ⟨n,rfl,hk2,rfl,D⟩
   ·have e0:w0=.non:=by unfold At at h0; exact h0
    subst e0;show eV _ _ _ _ _;refine eV.open ?_;ext;refine⟨rfl,_,rfl,?_⟩;refine iff_of_eq (bD (by simp)) |>.mpr ?_
    ext;exact fin H4 s4
   ·have e0:w0=.int (x.lo+(k:Nat)):=by unfold At at h0; exact h0
    subst e0;obtain⟨ea,es,rfl,hea,hes⟩:=tU h1;show eV _ _ _ _ _;refine eV.open ?_;ext;refine⟨rfl,_,rfl,?_⟩;refine iff_of_eq (aL (by simp)) |>.mpr ?_
    ext;have KC:=hx.wm (m:=x.lo+(k:Nat)) ∅ (by have:=hx.hi; omega)
    refine O8 (s04 _ _ m1) (m3.mono s04) (m4.mono s04) fun pw H6 s6 aw=>?_;have YK:=s04.trans s6;refine⟨.ref pw,cv,ea,es,wm x (x.lo+(k:Nat)),st0 x,c,n,bd,lim,rfl,aw,a3.mono YK,(s4.trans s6) _ _ hea,hes.mono (s4.trans s6),D,KC,yK KC,aek hx,hv,hW,by have:=D.hl; omega,fun H7 s7=>⟨_,rfl,?_⟩⟩
    rw[bD ⋯]
    exact fin H7 (s4.trans (s6.trans s7))
 ·ext;refine Sm.of (Tr.at _ _ _ hT1') (Tr.at _ _ _ hT2) sd ⋯ fun H3 s3=>⟨_,rfl,?_⟩
  rw[bD ⋯]
  exact hN H3 s3
theorem Yh(ns:List Int)(h:ns.length<=63):nq (ns.map V.int) (some 2) (some 63)=(ns.drop 2).map V.int:=by
 have e:nq (ns.map V.int) (some ((2:Nat):Int)) (some ((63:Nat):Int))=(ns.drop 2).map V.int:=by
  unfold nq;rw[HT.wL,HT.wL,bW,List.map_drop];by_cases q:2<=ns.length
  ·rw[Nat.min_eq_left q,Qa h,JZ (by rw[yz,bW]; omega)]
  ·rw[Qa ∅,Wi (by rw[bW]; omega),Wi (by rw[bW]; omega),List.take_nil]
 exact e
def Ji(K:Frag):Sp:=fun vs H Q _=>∃(p:Addr)(ns:List Int),vs=[.ref p,.int 2]/\YQ K H p (ns.map V.int)/\ns.length<=63/\∀(r:Addr)(cs:List Int) H',aF H H'->H' r=some (.lst (cs.map V.int))->cs.length<=2->Q (.ref r) H'
theorem vC:a_ ["_law_script","_law_many","_law_cells","_law_k","_law_cell"] ["_law_script","_law_many"] (aK qP):=(by walk_at "c")
theorem Ke(F:jc K "_law_folded" "_law_folded" qP f fd)(B:Bi mg):bZ P w K mg base iJ (k+1) f fd ["_law_script","_law_many"] (Ji K):=by
 refine F.ok vC (by rintro vs H Q E ⟨p,ns,rfl,_⟩; rfl) (0:)
 obtain⟨p,ns,rfl,hS,hn,q⟩:=h;have ND:=vC.nd;refine⟨_,(aq (aX (i:=2) (pt (Eg) B.list iW (aa (cz rZ (pv 0) dC (cN (pv 1))) aj))) (aq (fZ PassesOwn.never rfl (Qt (K:=K) rfl B.enumerate (aa (cz rZ (pv 0) (cN (pv 1)) (cN ao)) aj)) (bG (K:=K) (n:=2) rfl rfl (aA (aC (i:=3)) (aA (aC (i:=4)) bF))) (aG (cJ (aO bK (bB aW (pv 2) (aO lG (pv 3) (pv 1)) (fun _ _=>rfl)) (aO gK (pv 4) (aO bK (pv 3) ao))) (yN (pv 2) (aO lG (pv 3) (pv 1)) set_list)))) (aG (aZ (pv 2))))),?_⟩
 ext;refine⟨p,_,rfl,hS.sq,fun p1 f1=>?_⟩;rw[j_ ⋯,<- C_]
 have s1:=aM f1 (HO.lst ((ns.take (Int.toNat 2)).map V.int));have e1:upd H p1 (HO.lst ((ns.take (Int.toNat 2)).map V.int)) p1=some (.lst ((ns.take (Int.toNat 2)).map V.int)):=aD;generalize upd H p1 (HO.lst ((ns.take (Int.toNat 2)).map V.int))=H1 at s1 e1 ⊢;refine⟨p1,_,rfl,e1,fun pc fc=>?_⟩;have s2:=aM fc (HO.lst ((ns.take (Int.toNat 2)).map V.int));have e2:upd H1 pc (HO.lst ((ns.take (Int.toNat 2)).map V.int)) pc=some (.lst ((ns.take (Int.toNat 2)).map V.int)):=aD;generalize upd H1 pc (HO.lst ((ns.take (Int.toNat 2)).map V.int))=H2 at s2 e2 ⊢;have YL:=s1.trans s2;have hS2:=hS.same YL
 have zc:H pc=none:=by
  cases e:H pc with
  | none=>rfl
  | some o=>rw[s1 _ _ e] at fc; cases fc
 rw[Cd];ext;refine⟨p,_,rfl,hS2.sq,fun p3 f3=>?_⟩;rw[Yh ns hn];have s3:=aM f3 (HO.lst ((ns.drop 2).map V.int));have e3:upd H2 p3 (HO.lst ((ns.drop 2).map V.int)) p3=some (.lst ((ns.drop 2).map V.int)):=aD;generalize upd H2 p3 (HO.lst ((ns.drop 2).map V.int))=H3 at s3 e3 ⊢;have n3:p3≠pc:=fun z=>by rw[z,e2] at f3; cases f3
 refine EK.of e3 (fun i σ H'=>∃(cs:List Int)(o3 o4:Option V),σ=[some (.ref p),some (.int 2),some (.ref pc),o3,o4]/\H' pc=some (.lst (cs.map V.int))/\cs.length=(ns.take (Int.toNat 2)).length/\H' p3=some (.lst ((ns.drop 2).map V.int))/\aF H H') ⟨_,_,_,rfl,s3 _ _ e2,rfl,e3,YL.trans s3⟩ (fun i σ H' _ ⟨_,_,_,_,_,_,z,_⟩=>z) ?_ ?_
 ·rintro i x σ H4 p4 hx ⟨cs,o3,o4,rfl,e4,l4,g4,s4⟩ f4;obtain⟨hi,rfl⟩:=ints_get hx
  have hl8:cs.length=2:=by
   rw[l4,jV];rw[yz] at hi;exact Nat.min_eq_left (by show 2<=ns.length; omega)
  have ak0:i<63:=by rw[yz] at hi; omega
  refine⟨p4,_,rfl,cB.of aD,rfl,?_⟩;have s5:=aM f4 (HO.tup [V.int (i:Nat),V.int ((ns.drop 2).getD i 0)]);generalize upd H4 p4 (HO.tup [V.int (i:Nat),V.int ((ns.drop 2).getD i 0)])=H5 at s5 ⊢;ext;refine⟨⋯,?_⟩
  have em:((i:Nat):Int) % 2=((i % 2:Nat):Int):=by omega
  have lt:i % 2<cs.length:=by rw[hl8]; exact Nat.mod_lt _ ⋯
  refine Ix.lst (s5 _ _ e4) (wZ em lt) ?_;ext;refine⟨.inr ⟨∅,∅⟩,⋯,?_⟩
  refine⟨pc,_,_,i % 2,rfl,rfl,s5 _ _ e4,by rw[em,bW]; exact wV lt,?_⟩
  rw[<- List.map_set];exact⟨_,_,_,rfl,aD,by rw[List.length_set]; exact l4,by rw[aP n3]; exact s5 _ _ g4,aF.kY (s4.trans s5) zc⟩
 ·rintro σ H4 ⟨cs,o3,o4,rfl,e4,l4,g4,s4⟩;ext;exact q pc cs H4 s4 e4 (by rw[l4,jV]; exact Nat.min_le_left _ _)
def Pz:Sp:=fun vs H Q _=>∃(a:Addr)(n:Nat),vs=[.ref a]/\Tp H a n/\n<=100000000/\∀p c H',Il c->cY c (c.map (·.1))<=23->At (hid a H') (Ii c) (.ref p)->Tp H' a (n+20)->SX a H H'->Q (.ref p) H'
theorem xT:a_ ["_law_tape_here","_law_curve_here"] ["_law_tape_here"] (aK uL):=(by walk_at "c")
theorem Ye{p:Int×Int}{c:Cv}(h:p.1+p.2<=23):cY (p::c) ((p::c).map (·.1))<=23:=by
 have:=(GQ (cv:=p::c) (sp:=(p::c).map (·.1)) (by simp) (by simp)).2 0 p p.1 rfl rfl
 omega
theorem M4(F:jc K "_law_curve" "_law_curve" uL f fd)(B:Bi mg)(bH:Ct P w K mg base k "_law_draw" ["_law_tape_here","_law_many"] nZ):bZ P w K mg base iJ (k+1) f fd ["_law_tape_here"] Pz:=by
 refine F.ok xT (by rintro vs H Q E ⟨a,n,rfl,_⟩; rfl) (0:)
 obtain⟨a,n,rfl,tp,hn,q⟩:=h;have ND:=xT.nd;refine⟨_,(aq (aX (i:=1) (bR (aa (aV (aa (pf bH hr (aa (pv 0) (aa ao aj))) (aa (pf bH hr (aa (pv 0) (aa ao aj))) aj))) aj))) (aq (cX (bj gY (pf bH hr (aa (pv 0) (aa ao aj))) ao (bh _)) (aG (eQ (gJ (K:=K) rfl PySem.F.plainAttrs_list PySem.F.slot_list_append PySem.F.type_list_append dY (pv 1) (aa (aV (aa (pf bH hr (aa (pv 0) (aa ao aj))) (aa (pf bH hr (aa (pv 0) (aa ao aj))) aj))) aj)))) bM) (aG (aZ (pt (dZ) B.tuple dG (aa (pv 1) aj)))))),?_⟩
 ext;refine gf.of tp ∅ ⋯ ⋯ fun y1 H1 l1 u1 t1 s1=>gf.of t1 ∅ ⋯ ⋯ fun y2 H2 l2 u2 t2 s2=>?_
 refine⟨⋯,fun p3 H3 f3 s3 e3=>⟨⋯,fun p4 H4 f4 s4 e4=>?_⟩⟩
 have t4:=(t2.same s3).same s4;have n3:=t2.ne f3;have n4:=(t2.same s3).ne f4;refine gf.of t4 ∅ ⋯ ⋯ fun y5 H5 l5 u5 t5 s5=>?_
 have x5:SX a H H5:=s1.trans (s2.trans ((SX.of (s3.trans s4)).trans s5));have e5:=s5.get n4 e4;have e3':=s5.get n3 (s4 _ _ e3);ext;have a3:At (hid a H5) (ZJ (y1,y2)) (.ref p3):=At.tup (by rw[dh n3]; exact e3') (bI [y1,y2])
 by_cases z:y5=0
 ·rw[aL (ju z)];refine⟨.inl ⟨rfl,_,d7.of e5⟩,gf.of t5 ∅ ⋯ ⋯ fun y6 H6 l6 u6 t6 s6=>gf.of t6 ∅ ⋯ ⋯ fun y7 H7 l7 u7 t7 s7=>⟨⋯,fun p8 H8 f8 s8 e8=>?_⟩⟩
  have s58:=(s6.trans s7).trans (SX.of (a:=a) s8);have n8:=t7.ne f8;have t8:=t7.same s8;have e58:=s58.get n4 e5;refine⟨p4,_,_,rfl,rfl,e58,bC (by show 1<=1000; decide),?_⟩
  refine⟨p4,_,rfl,aD,fun l hl=>?_⟩;have n84:p8≠p4:=fun e=>by subst e; rw[s7.get n4 (s6.get n4 e5)] at f8; cases f8
  have h34:p3≠p4:=fun e=>by subst e; rw[e3] at f4; cases f4
  have t9:=t8.kY (o:=HO.lst ([V.ref p3]++[V.ref p8])) n4;have la:l≠a:=t9.ne hl;have b3:At (hid a (upd (upd H8 p4 (HO.lst ([V.ref p3]++[V.ref p8]))) l (.tup ([V.ref p3]++[V.ref p8])))) (ZJ (y1,y2)) (.ref p3):=At.tup (by rw[dh n3]; exact(aM hl _) _ _ (by rw[aP h34]; exact s58.get n3 e3')) (bI [y1,y2])
  have b8:At (hid a (upd (upd H8 p4 (HO.lst ([V.ref p3]++[V.ref p8]))) l (.tup ([V.ref p3]++[V.ref p8])))) (ZJ (y6,y7)) (.ref p8):=At.tup (by rw[dh n8]; exact(aM hl _) _ _ (by rw[aP n84]; exact e8)) (bI [y6,y7])
  refine q l [(y1,y2),(y6,y7)] _ ⟨by simp,by simp,fun p hp=>?_⟩ (Ye (by show y1+y2<=23; omega)) (At.tup (by rw[dh la]; exact aD) (ak.cons b3 (ak.cons b8 ak.nil))) ((t9.kY la).mono ∅) ?_
  ·simp only[bT,jW,or_false] at hp;rcases hp with rfl | rfl
   ·exact⟨l1,l2⟩
   ·exact⟨l6,l7⟩
  ·have z4:H p4=none:=by
    cases e:H p4 with
    | none=>rfl
    | some o=>rw[s3 _ _ ((s1.trans s2).get n4 e)] at f4; cases f4
   exact((x5.trans s58).kY z4 n4).trans (SX.of (aM hl _))
 ·rw[bD (by rw[decide_eq_true_eq]; exact z)]
  refine⟨p4,_,rfl,e5,fun l hl=>?_⟩;have la:l≠a:=t5.ne hl;have b3:At (hid a (upd H5 l (.tup [V.ref p3]))) (ZJ (y1,y2)) (.ref p3):=At.tup (by rw[dh n3]; exact(aM hl _) _ _ e3') (bI [y1,y2])
  refine q l [(y1,y2)] _ ⟨by simp,by simp,fun p hp=>?_⟩ (Ye (by show y1+y2<=23; omega)) (At.tup (by rw[dh la]; exact aD) (ak.cons b3 ak.nil)) ((t5.kY la).mono ∅) (x5.trans (SX.of (aM hl _)))
  rw[fP.mp hp];exact⟨l1,l2⟩
def Pn(K:Frag):Sp:=fun vs H Q _=>∃(p:Addr)(ns:List Int),vs=[.ref p]/\YQ K H p (ns.map V.int)/\ns.length<=63/\∀H',Q (.bl true) H'
theorem V7:a_ ["_law_script","_law_cells","_law_k","_law_tape_here","_law_post","_law_curve_here","_law_limit","_law_bound"] ["_law_script"] (aK xY):=(by walk_at "c")
theorem acq(F:jc K "law" "law" xY f fd)(B:Bi mg)(O1:Ct P w K mg base k "_law_folded" ["_law_script","_law_many"] (Ji K))(Yq:Ct P w K mg base k "_law_tape" ["_law_script","_law_k"] (VJ K))(Aa:Ct P w K mg base k "_law_small_post" ["_law_tape_here"] V0)(Up:Ct P w K mg base k "_law_curve" ["_law_tape_here"] Pz)(bH:Ct P w K mg base k "_law_draw" ["_law_tape_here","_law_many"] nZ)
  (Um:Ct P w K mg base k "_law_right" ["_law_post","_law_curve_here","_law_bound","_law_limit"] aen):bZ P w K mg base iJ (k+1) f fd ["_law_script"] (Pn K):=by
 refine F.ok V7 (by rintro vs H Q E ⟨p,ns,rfl,_⟩; rfl) (0:)
 obtain⟨p,ns,rfl,hS,hl,q⟩:=h;have ND:=V7.nd;refine⟨_,(aq (aX (i:=1) (pf O1 hr (aa (pv 0) (aa ao aj)))) (aq (fZ PassesOwn.never rfl (jO (by rfl) B.range (aa (pb (gG rfl) B.max jG (aa ao (aa (pb (jk (K:=K) rfl) B.len rP (aa (pv 1) aj)) aj))) aj)) (aC (i:=2)) (aq (aX (i:=3) (pf Yq hr (aa (pv 1) (aa (pv 2) aj)))) (aq (uU (i:=4) (j:=5) rfl ND rfl rfl ⋯ rfl rfl (aa (pf Aa hr (aa (pv 3) aj)) (aa (pf Up hr (aa (pv 3) aj)) aj)) (by rfl)) (aq (aX (i:=6) (bB aW (bR (aa ao (aa ao (aa (aO bK ao (pf bH hr (aa (pv 3) (aa ao aj)))) aj)))) (pf bH hr (aa (pv 3) (aa ao aj))) (fun _ _=>rfl))) (aq (aX (i:=6) (cM (bj gY (pv 2) ao (bh _)) (pv 6) (pb (dN rfl) B.min gO (aa ao (aa (pv 6) aj))))) (aq (aX (i:=7) (bB aW (bR (aa (aO q_ ao ao) (aa (pf bH hr (aa (pv 3) (aa (aO bK (bB aW (pv 4) ao (fun _ _=>rfl)) ao) aj))) aj))) (pt (mG) B.int vq (aa (eY jy (pf bH hr (aa (pv 3) (aa ao aj))) ao (bh _)) aj)) (fun _ _=>rfl))) (aG (cX (Gp (fY (pf Um hr (aa (pv 4) (aa (pv 5) (aa (pv 7) (aa (pv 6) aj))))))) (aG (aZ jX)) bM)))))))) (aG (aZ jX)))),?_⟩
 ext;refine⟨p,ns,rfl,hS,hl,fun pc cs H1 s1 e1 l1=>?_⟩
 obtain⟨n,hn,hn8⟩:∃n:Nat,(if(cs.length:Int)>2 then(cs.length:Int) else 2)=(n:Int)/\n<=8:=by
  refine⟨(if(cs.length:Int)>2 then(cs.length:Int) else 2).toNat,?_,?_⟩ <;> (split <;> omega)
 show Aq _ _ _ _ _ _;refine abu (n:=n) (fun R hR=>?_) ∅ (fun i σ H'=>∃o1 o2 o3 o4 o5 o6:Option V,σ=[some (.ref p),some (.ref pc),o1,o2,o3,o4,o5,o6]/\H' pc=some (.lst (cs.map V.int))) ⟨_,_,_,_,_,_,rfl,e1⟩ ?_ ?_
 ·ext;refine⟨pc,_,rfl,.inl (d7.of e1),?_⟩;rw[bW];ext;rw[hn];exact hR
 ·rintro i σ H2 hi ⟨o1,o2,o3,o4,o5,o6,rfl,e2⟩;ext;refine⟨pc,cs,_,rfl,d7.of e2,∅,∅,fun a H3 f3 s3 t3=>?_⟩
  have npc:pc≠a:=bV e2 f3;refine⟨a,_,rfl,t3,∅,fun pA x H4 hx a4 t4 s4=>?_⟩
  refine⟨a,_,rfl,t4,∅,fun pC c H5 hc hw a5 t5 s5=>?_⟩
  obtain⟨a0,b,c0,d0,ea,h1,h2,h3,h4⟩:=my a4;cases ea;have nA:pA≠a:=(j8 h1).1;have h1':=(j8 h1).2;refine⟨_,_,rfl,gf.of t5 ∅ ⋯ ⋯ fun y6 H6 l6 u6 t6 s6=>⟨_,_,rfl,rfl,⋯,fun p7 H7 f7 s7 e7=>gf.of (t6.same s7) ∅ ⋯ ⋯ fun y8 H8 l8 u8 t8 s8=>?_⟩⟩
  have n7:=t6.ne f7;have s48:=s5.trans (s6.trans ((SX.of (a:=a) s7).trans s8));obtain⟨lm,hlm,elm⟩:=p_ (ts:=[300,150,5+y6]) l8 u8
  have akV:5<=lm/\lm<=300:=by
   simp only[bT,jW,or_false] at hlm;rcases hlm with rfl | rfl | rfl <;> omega
  refine Ix.lst (s8.get n7 e7) elm ?_;have hm:=hx.m;unfold U12 at hm;split
  ·refine⟨⟨⋯,⋯,⋯⟩,Ix.tup (s48.get nA h1') (bw (j:=1) rfl) ⟨_,_,rfl,rfl,gf.of t8 ∅ ∅ ∅ fun y9 H9 l9 u9 t9 s9=>⟨⋯,fun p10 Am YM uM e10=>gf.of (t9.same uM) ∅ ⋯ ⋯ fun y11 wJ l11 u11 t11 yh=>?_⟩⟩⟩
   have n10:=t9.ne YM;have V9:=s48.trans (s9.trans ((SX.of (a:=a) uM).trans yh));have ab4:=s6.trans ((SX.of (a:=a) s7).trans (s8.trans (s9.trans ((SX.of (a:=a) uM).trans yh))))
   obtain⟨bd,ebd⟩:∃bd:Int,Ik [V.int (10 ^ Int.toNat 12),V.int y9] (if decide ((0:Int)<y11)=true then 1 else 0)=some (.int bd):=by
    split
    ·exact⟨_,bw (j:=1) rfl⟩
    ·exact⟨_,bw (j:=0) rfl⟩
   refine⟨_,_,rfl,rfl,Ix.lst (yh.get n10 e10) ebd ?_⟩;have Ih:=V9.get npc (s4.get npc (s3 _ _ e2));refine⟨_,_,x,c,bd,_,rfl,(a4.mono V9).mono fO,(a5.mono ab4).mono fO,hx,hc,hw,∅,∅,fun H12 ⟨S,fr,xs⟩=>⟨_,rfl,?_⟩⟩
   rw[bD ⋯]
   exact⟨_,_,_,_,_,_,rfl,xs pc _ (fun hb=>by have:=fr pc hb; rw[Ih] at this; cases this) Ih⟩
  ·refine⟨_,_,rfl,?_⟩;refine⟨⟨⋯,⋯,⋯⟩,Ix.tup (s48.get nA h1') (bw (j:=1) rfl) ⟨_,_,rfl,rfl,gf.of t8 ∅ ∅ ∅ fun y9 H9 l9 u9 t9 s9=>⟨⋯,fun p10 Am YM uM e10=>gf.of (t9.same uM) ∅ ⋯ ⋯ fun y11 wJ l11 u11 t11 yh=>?_⟩⟩⟩
   have n10:=t9.ne YM;have V9:=s48.trans (s9.trans ((SX.of (a:=a) uM).trans yh));have ab4:=s6.trans ((SX.of (a:=a) s7).trans (s8.trans (s9.trans ((SX.of (a:=a) uM).trans yh))))
   obtain⟨bd,ebd⟩:∃bd:Int,Ik [V.int (10 ^ Int.toNat 12),V.int y9] (if decide ((0:Int)<y11)=true then 1 else 0)=some (.int bd):=by
    split
    ·exact⟨_,bw (j:=1) rfl⟩
    ·exact⟨_,bw (j:=0) rfl⟩
   refine⟨_,_,rfl,rfl,Ix.lst (yh.get n10 e10) ebd ?_⟩;have Ih:=V9.get npc (s4.get npc (s3 _ _ e2));refine⟨_,_,x,c,bd,_,rfl,(a4.mono V9).mono fO,(a5.mono ab4).mono fO,hx,hc,hw,by split <;> omega,by split <;> omega,fun H12 ⟨S,fr,xs⟩=>⟨_,rfl,?_⟩⟩
   rw[bD ⋯]
   exact⟨_,_,_,_,_,_,rfl,xs pc _ (fun hb=>by have:=fr pc hb; rw[Ih] at this; cases this) Ih⟩
 ·rintro σ H2 ⟨_,_,_,_,_,_,rfl,_⟩;ext;exact q _
end
theorem un0{us:List Value}{n:Nat}(h:us.length=n+1):∃a r,us=a::r/\r.length=n:=by
 cases us with
 | nil=>cases h
 | cons a r=>exact⟨a,r,rfl,Nat.succ.inj h⟩
theorem Vm{us:List Value}(h:us.length=1):∃a,us=[a]:=by
 obtain⟨a,r,rfl,g⟩:=un0 h;cases Wg.mp g;exact⟨a,rfl⟩
theorem Ly{us:List Value}(h:us.length=2):∃a a0,us=[a,a0]:=by
 obtain⟨a,r,rfl,g⟩:=un0 h;obtain⟨a0,rfl⟩:=Vm g;exact⟨a,a0,rfl⟩
theorem Lh{us:List Value}(h:us.length=3):∃a a0 a1,us=[a,a0,a1]:=by
 obtain⟨a,r,rfl,g⟩:=un0 h;obtain⟨a0,a1,rfl⟩:=Ly g;exact⟨a,a0,a1,rfl⟩
theorem UJ{us:List Value}(h:us.length=4):∃a a0 a1 a2,us=[a,a0,a1,a2]:=by
 obtain⟨a,r,rfl,g⟩:=un0 h;obtain⟨a0,a1,a2,rfl⟩:=Lh g;exact⟨a,a0,a1,a2,rfl⟩
theorem un5{us:List Value}(h:us.length=5):∃a a0 a1 a2 a3,us=[a,a0,a1,a2,a3]:=by
 obtain⟨a,r,rfl,g⟩:=un0 h;obtain⟨a0,a1,a2,a3,rfl⟩:=UJ g;exact⟨a,a0,a1,a2,a3,rfl⟩
theorem all_mk{l:PySem.W.OpenLaw}{w:World}{K:Frag}{h:Heap}{mg:Str->Option Value}{fa:Addr}(X:K.In h)(G:h.Ns mainGlobals mg)(hfa:mg "law" = some (.ref fa))
  {f0:Addr} (e0:jB K "needed" xW f0)
  {f1:Addr} (e1:jB K "most_ahead" mQ f1)
  {f2:Addr} (e2:jB K "lean" Mp f2)
  {f3:Addr} (e3:jB K "lean_triple" lq f3)
  {f4:Addr} (e4:jB K "wish" Mm f4)
  {f5:Addr} (e5:jB K "rule_wish" oN f5)
  {f6:Addr} (e6:jB K "row_says" qO f6)
  {f7:Addr} (e7:jB K "first_stand" lC f7)
  {f8:Addr} (e8:jB K "hands_of" qR f8)
  {f9 T9:Addr} (e9:FnD K "beat" Mq f9 T9 12)
  {YM:Addr} (e10:jB K "since_and_look" jd YM)
  {f11:Addr} (Ih:jB K "change_of" oV f11)
  {f12:Addr} (Ra:jB K "with_change" kZ f12)
  {f13:Addr} (U4:jB K "sent_home" oM f13)
  {f14:Addr} (U3:jB K "bursts_of" oW f14)
  {f15:Addr} (Oh:jB K "most_next" oO f15)
  {f16:Addr} (e16:jB K "spares_next" k_ f16)
  {f17:Addr} (e17:jB K "spares_left" lg f17)
  {f18 T18:Addr} (e18:FnD K "opened" xV f18 T18 300)
  {f19:Addr} (e19:jB K "walked" xU f19)
  {f20:Addr} (e20:jB K "is_too_wide" lA f20)
  {f21:Addr} (e21:jB K "first_entry" lD f21)
  {f22:Addr} (e22:jB K "comes_next" mV f22)
  {f23:Addr} (e23:jB K "led_to" xX f23)
  {f24:Addr} (e24:jB K "breaks" yg f24)
  {f25:Addr} (e25:jB K "check_room" mW f25)
  {f26:Addr} (e26:jB K "load_to" uG f26)
  {f27:Addr} (e27:jB K "with_most" oK f27)
  {f28 T28:Addr} (e28:FnD K "fewest" yf f28 T28 300)
  {f29:Addr} (e29:jB K "_law_tape" x_ f29)
  {f30:Addr} (e30:jB K "_law_draw" yd f30)
  {f31:Addr} (e31:jB K "_law_folded" qP f31)
  {f32:Addr} (e32:jB K "_law_units" uH f32)
  {f33:Addr} (e33:jB K "_law_row" FW f33)
  {f34:Addr} (e34:jB K "_law_rules" uI f34)
  {f35:Addr} (e35:jB K "_law_small_post" jQ f35)
  {f36:Addr} (e36:jB K "_law_curve" uL f36)
  {f37:Addr} (e37:jB K "_law_row_wish" mR f37)
  {f38:Addr} (e38:jB K "_law_wish" xZ f38)
  {f39:Addr} (e39:jB K "_law_beat" ye f39)
  {f40:Addr} (e40:jB K "_law_lean" yc f40)
  {f41:Addr} (e41:jB K "_law_same" sW f41)
  {f42:Addr} (e42:jB K "_law_marked" mU f42)
  {f43:Addr} (e43:jB K "_law_refused" oU f43)
  {f44:Addr} (e44:jB K "_law_told_fewest" jE f44)
  {f45:Addr} (e45:jB K "_law_fewest_due" jR f45)
  {f46:Addr} (e46:jB K "_law_breaks" qQ f46)
  {f47:Addr} (e47:jB K "_law_keeps" uK f47)
  {f48:Addr} (e48:jB K "_law_right" uJ f48)
  {f49:Addr} (e49:jB K "law" xY f49)
  {aH:Addr} (BV:nsIn K mainGlobals "TooMany" = some (some (.ref aH)))
  {aJ:Addr} (BR:nsIn K mainGlobals "TooWide" = some (some (.ref aJ)))
  {bO:Addr} (IK:nsIn K mainGlobals "HandError" = some (some (.ref bO)))
  {eN:Addr} (Vf:nsIn K mainGlobals "Beyond" = some (some (.ref eN)))
  {eO:Addr} (Vg:nsIn K mainGlobals "BadAsk" = some (some (.ref eO)))
  {dz:Addr} (RD:nsIn K mainGlobals "BadLoad" = some (some (.ref dz)))
  {dw:Addr} (RC:nsIn K mainGlobals "BadText" = some (some (.ref dw)))
  {du:Addr} (RB:nsIn K mainGlobals "BadYard" = some (some (.ref du)))
  {eG:Addr} (Ve:nsIn K mainGlobals "NoName" = some (some (.ref eG)))
  {dq:Addr} (Rz:nsIn K mainGlobals "TooLong" = some (some (.ref dq)))
  (Ex:excIn K aH veM "ValueError.__new__" = true)
  (Ew:excIn K aJ veM "ValueError.__new__" = true)
  (Fp:exmOne K (.ref aH) (.ref aH)=some true)
  (Fo:exmOne K (.ref aJ) (.ref aJ)=some true)
  (Ft:exmOne K (.ref aH) (.ref bO)=some true)
  (Oe:findIn K (.ref aH) "__getattribute__" = some (some (.builtin "BaseException.__getattribute__")))
  (Oc:findIn K (.ref aH) "__getattr__" = some none)
  (Oa:findIn K (.ref aH) "__class__" = some (some (.builtin "object.__class__")))
  (NZ:hasDictIn K aH=true)
  (N8:subIn K (.ref aH) (.type "BaseException")=some true)
  (N6:mroIn K aH (.type "object")=some true)
  (Fl:kitOne K (.ref aH) (.ref dz)=some false)
  (Iw:kitOne K (.ref aH) (.ref eN)=some false)
  (Fi:kitOne K (.ref aH) (.ref du)=some false)
  (Iu:kitOne K (.ref aH) (.ref eG)=some false)
  (Fg:kitOne K (.ref aH) (.ref dq)=some false)
  (Fe:kitOne K (.ref aH) (.ref aJ)=some false)
  (Ff:kitOne K (.ref aH) (.ref aH)=some true)
  (Iz:kitOne K (.ref aH) (.ref eO)=some false)
  (Fj:kitOne K (.ref aH) (.ref dw)=some false)
  (xn:kitOne K (.ref aH) (.ref bO)=some true)
  (adX:kitOne K (.ref aH) (.type "ValueError")=some true)
  (Fq:exmOne K (.ref aJ) (.ref bO)=some true)
  (Od:findIn K (.ref aJ) "__getattribute__" = some (some (.builtin "BaseException.__getattribute__")))
  (Ob:findIn K (.ref aJ) "__getattr__" = some none)
  (N_:findIn K (.ref aJ) "__class__" = some (some (.builtin "object.__class__")))
  (NQ:hasDictIn K aJ=true)
  (N7:subIn K (.ref aJ) (.type "BaseException")=some true)
  (N5:mroIn K aJ (.type "object")=some true)
  (Fd:kitOne K (.ref aJ) (.ref dz)=some false)
  (Ip:kitOne K (.ref aJ) (.ref eN)=some false)
  (E_:kitOne K (.ref aJ) (.ref du)=some false)
  (Io:kitOne K (.ref aJ) (.ref eG)=some false)
  (EY:kitOne K (.ref aJ) (.ref dq)=some false)
  (Ey:kitOne K (.ref aJ) (.ref aJ)=some true)
  (Ez:kitOne K (.ref aJ) (.ref aH)=some false)
  (Ir:kitOne K (.ref aJ) (.ref eO)=some false)
  (Fb:kitOne K (.ref aJ) (.ref dw)=some false)
  (xm:kitOne K (.ref aJ) (.ref bO)=some true)
  (adW:kitOne K (.ref aJ) (.type "ValueError")=some true)
  (zg5:specialIn K (.builtin "object.__class__") "__get__" = some (some (.builtin "getset_descriptor.__get__")))
  (zh5:takesIn K (.builtin "object.__class__")=some true)
  (Y0:Nb K "tuple")
  (adQ:Nb K "max")
  (adP:Nb K "min")
  (Im:Nb K "enumerate")
  (adL:Nb K "zip")
  (adM:Nb K "sum")
  (abK:Nb K "list")
  (Lr:Nb K "reversed")
  (Y4:Nb K "range")
  (adR:Nb K "len")
  (adO:Nb K "set")
  (adV:Nb K "abs")
  (adS:Nb K "int")
  (Et:Nb K "isinstance")
  (adN:Nb K "str")
  (adU:Nb K "all")
  (abM:Nb K "bool")
  (Eu:Nb K "ValueError")
  (adT:Nb K "any")
  (abL:Nb K "dict")
  {Vp Vo Vn:Tok} (Z7:NT K "WHATS" [.str "come" Vp,.str "done" Vo,.str "wait" Vn])
  (acy:BL K "OVER" "over")
  (Z8:BL K "UNDER" "under")
  (acA:BL K "EACH" "each")
  (GP:Ni K "MOST_HANDS" 12)
  (y_:Ni K "TRIPLES_SEEN" 3)
  (Z9:Ni K "LIMIT" 300)
  (Ko:Ni K "MOST_COME" 23)
  (acz:BL K "KEPT" "kept")
  (W7:BL K "BROKEN" "broken") :
  ∃fd:FuncData,(∀(s:Shared)(v:Value),BindsTo s fd ⟨[v],[]⟩ [("_law_script",v)])/\∀base:Heap,K.In base->base.Ns mainGlobals mg->bZ l.prog w K mg base iJ 12 fa fd ["_law_script"] (Pn K):=by
 obtain⟨h0⟩:=e0.has X G (ps:=["post"]) fun _ _ _ _ _ _ us hl=>by obtain⟨_,rfl⟩:=Vm hl; rfl
 obtain⟨h1⟩:=e1.has X G (ps:=["rows","what"]) fun _ _ _ _ _ _ us hl=>by obtain⟨_,_,rfl⟩:=Ly hl; rfl
 obtain⟨h2⟩:=e2.has X G (ps:=["post","stand"]) fun _ _ _ _ _ _ us hl=>by obtain⟨_,_,rfl⟩:=Ly hl; rfl
 obtain⟨h3⟩:=e3.has X G (ps:=["triple","place","wants"]) fun _ _ _ _ _ _ us hl=>by obtain⟨_,_,_,rfl⟩:=Lh hl; rfl
 obtain⟨h4⟩:=e4.has X G (ps:=["post","hands","newest"]) fun _ _ _ _ _ _ us hl=>by obtain⟨_,_,_,rfl⟩:=Lh hl; rfl
 obtain⟨h5⟩:=e5.has X G (ps:=["rule","hands","newest"]) fun _ _ _ _ _ _ us hl=>by obtain⟨_,_,_,rfl⟩:=Lh hl; rfl
 obtain⟨h6⟩:=e6.has X G (ps:=["row","hands","newest"]) fun _ _ _ _ _ _ us hl=>by obtain⟨_,_,_,rfl⟩:=Lh hl; rfl
 obtain⟨h7⟩:=e7.has X G (ps:=["post"]) fun _ _ _ _ _ _ us hl=>by obtain⟨_,rfl⟩:=Vm hl; rfl
 obtain⟨h8⟩:=e8.has X G (ps:=["stand"]) fun _ _ _ _ _ _ us hl=>by obtain⟨_,rfl⟩:=Vm hl; rfl
 obtain⟨h9⟩:=e9.has X G (ps:=["post","stand","come","free"]) (fun _ _ _ _ _ _ _ us hl=>by
  rw[oY] at hl;obtain⟨_,_,_,_,rfl⟩:=UJ hl
  exact⟨_,rfl,rfl⟩) fun _ _ _ _ _ _ _ us hl=>by
  obtain⟨_,_,_,rfl⟩:=Lh (Nat.succ.inj ((c7).symm.trans hl));exact⟨_,rfl,rfl⟩
 obtain⟨h10⟩:=e10.has X G (ps:=["post","since","rest"]) fun _ _ _ _ _ _ us hl=>by obtain⟨_,_,_,rfl⟩:=Lh hl; rfl
 obtain⟨h11⟩:=Ih.has X G (ps:=["post","hands","newest","free"]) fun _ _ _ _ _ _ us hl=>by obtain⟨_,_,_,_,rfl⟩:=UJ hl; rfl
 obtain⟨h12⟩:=Ra.has X G (ps:=["post","stand","change"]) fun _ _ _ _ _ _ us hl=>by obtain⟨_,_,_,rfl⟩:=Lh hl; rfl
 obtain⟨h13⟩:=U4.has X G (ps:=["ready","called","many"]) fun _ _ _ _ _ _ us hl=>by obtain⟨_,_,_,rfl⟩:=Lh hl; rfl
 obtain⟨h14⟩:=U3.has X G (ps:=["curve"]) fun _ _ _ _ _ _ us hl=>by obtain⟨_,rfl⟩:=Vm hl; rfl
 obtain⟨h15⟩:=Oh.has X G (ps:=["curve","spare"]) fun _ _ _ _ _ _ us hl=>by obtain⟨_,_,rfl⟩:=Ly hl; rfl
 obtain⟨h16⟩:=e16.has X G (ps:=["curve","spare","come"]) fun _ _ _ _ _ _ us hl=>by obtain⟨_,_,_,rfl⟩:=Lh hl; rfl
 obtain⟨h17⟩:=e17.has X G (ps:=["curve","spare","come"]) fun _ _ _ _ _ _ us hl=>by obtain⟨_,_,_,rfl⟩:=Lh hl; rfl
 obtain⟨h18⟩:=e18.has X G (ps:=["post","stand","curve","bound","limit"]) (fun _ _ _ _ _ _ _ us hl=>by
  rw[oY] at hl;obtain⟨_,_,_,_,_,rfl⟩:=un5 hl
  exact⟨_,rfl,rfl⟩) fun _ _ _ _ _ _ _ us hl=>by
  obtain⟨_,_,_,_,rfl⟩:=UJ (Nat.succ.inj ((c7).symm.trans hl));exact⟨_,rfl,rfl⟩
 obtain⟨h19⟩:=e19.has X G (ps:=["post","stand","curve","bound","limit"]) fun _ _ _ _ _ _ us hl=>by obtain⟨_,_,_,_,_,rfl⟩:=un5 hl; rfl
 obtain⟨h20⟩:=e20.has X G (ps:=["curve"]) fun _ _ _ _ _ _ us hl=>by obtain⟨_,rfl⟩:=Vm hl; rfl
 obtain⟨h21⟩:=e21.has X G (ps:=["post","stand","curve"]) fun _ _ _ _ _ _ us hl=>by obtain⟨_,_,_,rfl⟩:=Lh hl; rfl
 obtain⟨h22⟩:=e22.has X G (ps:=["curve","entry"]) fun _ _ _ _ _ _ us hl=>by obtain⟨_,_,rfl⟩:=Ly hl; rfl
 obtain⟨h23⟩:=e23.has X G (ps:=["post","curve","entry","come"]) fun _ _ _ _ _ _ us hl=>by obtain⟨_,_,_,_,rfl⟩:=UJ hl; rfl
 obtain⟨h24⟩:=e24.has X G (ps:=["bound","behind","away"]) fun _ _ _ _ _ _ us hl=>by obtain⟨_,_,_,rfl⟩:=Lh hl; rfl
 obtain⟨h25⟩:=e25.has X G (ps:=["entries","limit"]) fun _ _ _ _ _ _ us hl=>by obtain⟨_,_,rfl⟩:=Ly hl; rfl
 obtain⟨h26⟩:=e26.has X G (ps:=["entries","place"]) fun _ _ _ _ _ _ us hl=>by obtain⟨_,_,rfl⟩:=Ly hl; rfl
 obtain⟨h27⟩:=e27.has X G (ps:=["post","many"]) fun _ _ _ _ _ _ us hl=>by obtain⟨_,_,rfl⟩:=Ly hl; rfl
 obtain⟨h28⟩:=e28.has X G (ps:=["post","curve","bound","limit"]) (fun _ _ _ _ _ _ _ us hl=>by
  rw[oY] at hl;obtain⟨_,_,_,_,rfl⟩:=UJ hl
  exact⟨_,rfl,rfl⟩) fun _ _ _ _ _ _ _ us hl=>by
  obtain⟨_,_,_,rfl⟩:=Lh (Nat.succ.inj ((c7).symm.trans hl));exact⟨_,rfl,rfl⟩
 obtain⟨h29⟩:=e29.has X G (ps:=["_law_script","_law_k"]) fun _ _ _ _ _ _ us hl=>by obtain⟨_,_,rfl⟩:=Ly hl; rfl
 obtain⟨h30⟩:=e30.has X G (ps:=["_law_tape_here","_law_many"]) fun _ _ _ _ _ _ us hl=>by obtain⟨_,_,rfl⟩:=Ly hl; rfl
 obtain⟨h31⟩:=e31.has X G (ps:=["_law_script","_law_many"]) fun _ _ _ _ _ _ us hl=>by obtain⟨_,_,rfl⟩:=Ly hl; rfl
 obtain⟨h32⟩:=e32.has X G (ps:=["_law_tape_here"]) fun _ _ _ _ _ _ us hl=>by obtain⟨_,rfl⟩:=Vm hl; rfl
 obtain⟨h33⟩:=e33.has X G (ps:=["_law_tape_here","_law_small"]) fun _ _ _ _ _ _ us hl=>by obtain⟨_,_,rfl⟩:=Ly hl; rfl
 obtain⟨h34⟩:=e34.has X G (ps:=["_law_tape_here","_law_small"]) fun _ _ _ _ _ _ us hl=>by obtain⟨_,_,rfl⟩:=Ly hl; rfl
 obtain⟨h35⟩:=e35.has X G (ps:=["_law_tape_here"]) fun _ _ _ _ _ _ us hl=>by obtain⟨_,rfl⟩:=Vm hl; rfl
 obtain⟨h36⟩:=e36.has X G (ps:=["_law_tape_here"]) fun _ _ _ _ _ _ us hl=>by obtain⟨_,rfl⟩:=Vm hl; rfl
 obtain⟨h37⟩:=e37.has X G (ps:=["_law_row_here","_law_hands","_law_newest"]) fun _ _ _ _ _ _ us hl=>by obtain⟨_,_,_,rfl⟩:=Lh hl; rfl
 obtain⟨h38⟩:=e38.has X G (ps:=["_law_post","_law_hands","_law_newest"]) fun _ _ _ _ _ _ us hl=>by obtain⟨_,_,_,rfl⟩:=Lh hl; rfl
 obtain⟨h39⟩:=e39.has X G (ps:=["_law_post","_law_stand","_law_come","_law_free"]) fun _ _ _ _ _ _ us hl=>by obtain⟨_,_,_,_,rfl⟩:=UJ hl; rfl
 obtain⟨h40⟩:=e40.has X G (ps:=["_law_post","_law_stand"]) fun _ _ _ _ _ _ us hl=>by obtain⟨_,_,rfl⟩:=Ly hl; rfl
 obtain⟨Lk⟩:=e41.has X G (ps:=["_law_found","_law_due"]) fun _ _ _ _ _ _ us hl=>by obtain⟨_,_,rfl⟩:=Ly hl; rfl
 obtain⟨Lj⟩:=e42.has X G (ps:=["_law_thing"]) fun _ _ _ _ _ _ us hl=>by obtain⟨_,rfl⟩:=Vm hl; rfl
 obtain⟨h43⟩:=e43.has X G (ps:=["_law_caught"]) fun _ _ _ _ _ _ us hl=>by obtain⟨_,rfl⟩:=Vm hl; rfl
 obtain⟨h44⟩:=e44.has X G (ps:=["_law_post","_law_curve_here","_law_bound","_law_limit"]) fun _ _ _ _ _ _ us hl=>by obtain⟨_,_,_,_,rfl⟩:=UJ hl; rfl
 obtain⟨h45⟩:=e45.has X G (ps:=["_law_post","_law_curve_here","_law_bound","_law_limit"]) fun _ _ _ _ _ _ us hl=>by obtain⟨_,_,_,_,rfl⟩:=UJ hl; rfl
 obtain⟨h46⟩:=e46.has X G (ps:=["_law_post","_law_curve_here","_law_bound","_law_load"]) fun _ _ _ _ _ _ us hl=>by obtain⟨_,_,_,_,rfl⟩:=UJ hl; rfl
 obtain⟨h47⟩:=e47.has X G (ps:=["_law_post","_law_curve_here","_law_bound","_law_entries"]) fun _ _ _ _ _ _ us hl=>by obtain⟨_,_,_,_,rfl⟩:=UJ hl; rfl
 obtain⟨h48⟩:=e48.has X G (ps:=["_law_post","_law_curve_here","_law_bound","_law_limit"]) fun _ _ _ _ _ _ us hl=>by obtain⟨_,_,_,_,rfl⟩:=UJ hl; rfl
 have B:Bi mg:=⟨mg_none_of X G Y0,mg_none_of X G adQ,mg_none_of X G adP,mg_none_of X G Im,mg_none_of X G adL,mg_none_of X G adM,mg_none_of X G abK,mg_none_of X G Lr,mg_none_of X G Y4,mg_none_of X G adR,mg_none_of X G adO,mg_none_of X G adV,mg_none_of X G adS,mg_none_of X G Et,mg_none_of X G adN,mg_none_of X G adU,mg_none_of X G abM,mg_none_of X G Eu,mg_none_of X G adT,mg_none_of X G abL⟩;have O:Co K mg:=⟨(let ⟨a,n,_,z,m⟩:=Z7; ⟨a,mg_of X G z,⟨_,m,rfl,rfl⟩,fun H=>.inr ⟨_,_,n,m,rfl,rfl,(by show 3<=sizeLine; decide),(.cons ⟨_,rfl⟩ (.cons ⟨_,rfl⟩ (.cons ⟨_,rfl⟩ .nil)))⟩⟩),acy.gs X G,Z8.gs X G,acA.gs X G,GP.gi X G,y_.gi X G,Z9.gi X G,Ko.gi X G,acz.gs X G,W7.gs X G⟩
 have nj:=YT.of Oe Oc Oa zg5 zh5 NZ N8 N6;have m_:=YT.of Od Ob N_ zg5 zh5 NQ N7 N5;have Z:ZL K mg aH aJ:=⟨mg_of X G BV,mg_of X G BR,Ex,Ew,Fp,Fo⟩;have Y:ZM K mg bO eN eO dz dw du eG dq aH aJ:=⟨mg_of X G IK,mg_of X G Vf,mg_of X G Vg,mg_of X G RD,mg_of X G RC,mg_of X G RB,mg_of X G Ve,mg_of X G Rz,mg_of X G BV,mg_of X G BR,Ft,nj.1,nj.2,Fl,Iw,Fi,Iu,Fg,Fe,Ff,Iz,Fj,xn,adX,Fq,m_.1,m_.2,Fd,Ip,E_,Io,EY,Ey,Ez,Ir,Fb,xm,adW⟩;obtain⟨oc,od,an,sl,kV,dc,pm,cd,ct,ea,el,ec,ek0⟩:=e49;have e:=hfa.symm.trans (mg_of X G ea);cases e;refine⟨fnOf "law" "law" (gk xY) (eU xY) (aK xY) .none kV dc pm an cd ct,fun s v=>.of_eq rfl,fun base _ _=>?_⟩;have F:=XX (st:=xY) el ec ek0;have Bu:=h31.ct l.prog w base (Ke (k:=0) h31.F B);have K7:=h29.ct l.prog w base (S5 (k:=0) h29.F B);have iD:=h30.ct l.prog w base (S7 (k:=0) h30.F B);have Hv:=h32.ct l.prog w base (MK (k:=1) h32.F B (iD.mono ⋯))
 have O4:=h33.ct l.prog w base (WT (k:=2) h33.F B (iD.mono ⋯) (Hv.mono ⋯))
 have Hw:=h34.ct l.prog w base (MP (k:=3) h34.F B (iD.mono ⋯) (O4.mono ⋯))
 have um:=h35.ct l.prog w base (v_ (k:=4) h35.F B (iD.mono ⋯) (Hw.mono ⋯))
 have Hz:=h36.ct l.prog w base (M4 (k:=1) h36.F B (iD.mono ⋯))
 have pH:=h27.ct l.prog w base (Gu (k:=0) h27.F);have lU:=h7.ct l.prog w base (yV (k:=0) h7.F B);have cV:=h15.ct l.prog w base (Gx (k:=0) h15.F B);have iC:=h14.ct l.prog w base (GD (k:=0) h14.F B);have lR:=h20.ct l.prog w base (yU (k:=1) h20.F O (cV.mono ⋯) (iC.mono ⋯))
 have nD:=h1.ct l.prog w base (Be (k:=0) h1.F B);have z9:=h0.ct l.prog w base (SM (k:=1) h0.F B O (nD.mono ⋯))
 have lQ:=h3.ct l.prog w base (yS (k:=0) h3.F B);have vp:=h2.ct l.prog w base (Z2 (k:=2) h2.F B (z9.mono ⋯) (lQ.mono ⋯))
 have lV:=h21.ct l.prog w base (yW (k:=3) h21.F (vp.mono ⋯) (iC.mono ⋯))
 have nF:=h22.ct l.prog w base (Bg (k:=1) h22.F B (cV.mono ⋯))
 have jl:=h10.ct l.prog w base (tL (k:=0) h10.F);have rK:=h6.ct l.prog w base (Kd (k:=0) h6.F B O);have pJ:=h5.ct l.prog w base (Gw (k:=1) h5.F (rK.mono ⋯))
 have OJ:=h4.ct l.prog w base (Z1 (k:=2) h4.F B (pJ.mono ⋯))
 have pL:=h11.ct l.prog w base (GC (k:=3) h11.F B (OJ.mono ⋯))
 have rN:=h8.ct l.prog w base (Kg (k:=0) h8.F B);have pI:=h13.ct l.prog w base (Gv (k:=0) h13.F B);have lM:=h12.ct l.prog w base (yP (k:=1) h12.F B (pI.mono ⋯))
 have O3:=h9.ct l.prog w base (Z3 (k:=4) h9.F B O (jl.mono ⋯) (pL.mono ⋯) (rN.mono ⋯) (lM.mono ⋯))
 have fW:=h17.ct l.prog w base (yR (k:=0) h17.F B);have z_:=h23.ct l.prog w base (SN (k:=5) h23.F (vp.mono ⋯) (O3.mono ⋯) (fW.mono ⋯))
 have Ae:=h24.ct l.prog w base (S_ (k:=0) h24.F);have nG:=h25.ctE l.prog w base (Bh (k:=0) h25.F B Z);have vo:=h26.ct l.prog w base (MJ (k:=0) h26.F);have z8:=h19.ctE l.prog w base (Sy (k:=6) h19.F B O Z (lR.mono ⋯) (lV.mono ⋯) (nF.mono ⋯) (z_.mono ⋯) (Ae.mono ⋯) (nG.mono ⋯) (vo.mono ⋯))
 have mH:=h18.ctF l.prog w base (SJ (k:=7) h18.F O (z8.mono ⋯))
 have Ad:=h28.ctF l.prog w base (S9 (k:=8) h28.F B O (pH.mono ⋯) (lU.mono ⋯) (mH.mono ⋯))
 have pM:=h43.ct l.prog w base (Gy (k:=0) h43.F B Y);have rO:=h44.ct l.prog w base (uY (k:=9) h44.F B Y (Ad.mono ⋯) (pM.mono ⋯))
 have uo:=h45.ct l.prog w base (wg (k:=8) h45.F B Y (mH.mono ⋯) (pM.mono ⋯))
 have Bt:=Lk.ct l.prog w base (MN (k:=0) Lk.F);have Bs:=Lk.ct l.prog w base (jf (k:=1) 0 Lk.F B (Bt.mono ⋯))
 have Br:=Lk.ct l.prog w base (jf (k:=2) 1 Lk.F B (Bs.mono ⋯))
 have Bq:=Lk.ct l.prog w base (jf (k:=3) 2 Lk.F B (Br.mono ⋯))
 have Bp:=Lk.ct l.prog w base (jf (k:=4) 3 Lk.F B (Bq.mono ⋯))
 have Bo:=Lk.ct l.prog w base (jf (k:=5) 4 Lk.F B (Bp.mono ⋯))
 have Bm:=Lk.ct l.prog w base (jf (k:=6) 5 Lk.F B (Bo.mono ⋯))
 have Bl:=Lk.ct l.prog w base (jf (k:=7) 6 Lk.F B (Bm.mono ⋯))
 have wz:=h37.ct l.prog w base (Bf (k:=0) h37.F B);have K6:=h38.ct l.prog w base (SQ (k:=1) h38.F B (wz.mono ⋯))
 have vV:=h39.ct l.prog w base (S8 (k:=2) h39.F B (K6.mono ⋯))
 have Bv:=h46.ct l.prog w base (Kf (k:=3) h46.F B (vV.mono ⋯))
 have K8:=h40.ct l.prog w base (S6 (k:=0) h40.F B);have lO:=h16.ct l.prog w base (yQ (k:=1) h16.F B (cV.mono ⋯) (fW.mono ⋯))
 have Hy:=h47.ct l.prog w base (M3 (k:=3) h47.F B (cV.mono ⋯) (vV.mono ⋯) (K8.mono ⋯) (lO.mono ⋯))
 have wI:=Lj.ct l.prog w base (Gz (k:=0) Lj.F);have wH:=Lj.ct l.prog w base (gA (k:=1) 0 Lj.F B (wI.mono ⋯))
 have wG:=Lj.ct l.prog w base (gA (k:=2) 1 Lj.F B (wH.mono ⋯))
 have wF:=Lj.ct l.prog w base (gA (k:=3) 2 Lj.F B (wG.mono ⋯))
 have wD:=Lj.ct l.prog w base (gA (k:=4) 3 Lj.F B (wF.mono ⋯))
 have wC:=Lj.ct l.prog w base (gA (k:=5) 4 Lj.F B (wD.mono ⋯))
 have wB:=Lj.ct l.prog w base (gA (k:=6) 5 Lj.F B (wC.mono ⋯))
 have wA:=Lj.ct l.prog w base (gA (k:=7) 6 Lj.F B (wB.mono ⋯))
 have Hx:=h48.ct l.prog w base (MT (k:=10) h48.F B (rO.mono ⋯) (uo.mono ⋯) (Bl.mono ⋯) (Bv.mono ⋯) (Hy.mono ⋯) (wA.mono ⋯))
 exact acq (k:=11) F B (Bu.mono ⋯) (K7.mono ⋯) (um.mono ⋯) (Hz.mono ⋯) (iD.mono ⋯) (Hx.mono ⋯)
theorem walk{l:PySem.W.OpenLaw}{q:Program}{loose:List Str}{XP:(Str->Option Value)->Heap->Prop}{YP:World->Heap->Prop}{d:DefRec}{K:Params->Frag}(hn:l.most=some 63)(hdf:d.params.defaults=[])
  (hY:∀(w:World)(h:Heap),YP w h->(K w.params).In h)
  (F:∀(w:World)(mg:Str->Option Value)(fa:Addr)(h:Heap),(K w.params).In h->h.Ns mainGlobals mg->mg d.name=some (.ref fa) ->
   ∃fd:FuncData,(∀(s:Shared)(u:Value),BindsTo s fd ⟨[u],[]⟩ [("_law_script",u)])/\∀base:Heap,(K w.params).In base->base.Ns mainGlobals mg->bZ l.prog w (K w.params) mg base iJ 12 fa fd ["_law_script"] (Pn (K w.params))) :
  PySem.W.WalkO q loose XP YP l.row.toRowW d [] (fun f vs=>PySem.call f vs):=
 L2.Ze (n:=63) (k:=12) (x:="_law_script") (CX:=fun _=>iJ) (sp:=fun w=>Pn (K w.params)) hn ⋯ hdf ⟨rfl,⋯,⋯,rfl⟩ hY F (fun _ _ a ns hl hO hS=>⟨a,ns,rfl,YQ.of hS hO,hl,fun _=>rfl⟩) fun _ _ _ _ _ z=>z
end K58
structure PySem.W.Fast:Prop where(tw6198233142212593910 tw2056209503428376446 tw1139402821342010088 tw16790594545305836391 tw8052307705665243148 tw14189676403109601236 tw8578032851531358072 tw6356668493166816676 tw3908660017353553430 tw17471295480871759893 tw6076617806560001173 tw16497553071612489121 tw14078167042825080746 tw9150621395317535630 tw10846155966389677173 tw6939148534915093274 tw5087715402220048038 tw7230438072101442262 tw254086572590310533 tw4329612639723000186 tw5528663450113066967 tw2021069983007633762 tw605878649479302920 tw6366278954418159650 tw8046638691705577978 tw13090061030787253925 tw14376201995026514484 tw8710765311417698050 tw13351941043591286664 tw9584781404249138938 tw8752570903333763968 tw1444313401023217175 tw8384233749940283234 tw2022819908757797714 tw4913634842437969 tw5824783338362490186 tw6706341011813848628 tw14815882272777007792 tw8567025476193278073 tw6394990813227359851 tw13240099206497217531 tw2090533087582321475 tw1376363543527381934 tw13990796898141179885 tw6182649882957778652 tw11293010726148808843 tw9042024187588421274 tw12112916554278087290 tw122593920840645865 tw11812838221705423956 tw8766274390321570657 tw5860604392043355389 tw2793282364159496620 tw7209305817092500810 tw6750932073938620241 tw2379187881078388954 tw6444243949693189642 tw11996955233921413541 tw1137857492020966493 tw5322085329150975320 tw732106420489933100 tw4965034832738733160 tw13106610209812840135 tw17899441992713586023 tw5668562120516838118 tw17679271837850885512 tw9874489380822870818 tw7127886018734837273 tw5230941626399379225 tw11241229363681191517 tw1779414378716588300 tw4733898821681671133 tw7675850979558981419 tw17999969651133295427 tw16088307498366872368 tw7435572284592690930 tw10467829722613380009 tw6369665687721567481 tw6014627092611093085 tw226449230828125611 tw11409354325057472456 tw16738923930046399211 tw8572669286254424160 tw1695023051277859392 tw7187332047141902504 tw12571126500817937134 tw13622767780597489318 tw11576580174040476403 tw2407431880281089723 tw1207979472036918726 tw9408122238956665020 tw7923080007587046624 tw9067308519702431100 tw9477157443682728828 tw11725496138820622618 tw1608618619846513242 tw11085070157633001667 tw13509571921005924861 tw6436601089166103626 tw5616219832047601489 tw474455518106744449 tw12524104070196243927 tw4949812108307099791 tw16598140720565917263 tw14231683814608691215 tw17409449633928402372 tw12035417200354552431 tw6145826547739692995 tw12632324964116793977 tw12078326501411125288 tw2073063314252156586 tw5814299025067033340 tw7939171582985310741 tw14013753930021041575 tw17539409296803849291 tw3576648031802066963 tw780741052093229828 tw16174783623332747033 tw6349291619649701774 tw9528936833210224767 tw1237935209601171500 tw9761120030503559892 tw6571152952718633024 tw15744624564851226445 tw5352891081291076258 tw16584025387183965327 tw9898983859323284547 tw11591932540290740324 tw6611130047851158197 tw11558365440956745171 tw11809954045712790509 tw11360273142577218223 tw17813556277072834505 tw11003082244275182523 tw6502484043008080959 tw16130286942677823764 tw9528149492525774094 tw17612947557916306447 tw18367849575030678639 tw8412055718156466488 tw14606693701261340191 tw11085655804403899979 tw12173969359391454246 tw2443935827047462885 tw4352549198957837366 tw8625032160614844764 tw15088146701490727515 tw6930727118286373910 tw7731986768296949013 tw13764189755629400920 tw6509317011110666615 tw13572959812952539242 tw3315745885039954610 tw8605577647761286151 tw15498705764272683480 tw17501691055331361173 tw5586558443432868898 tw2636571280817393239 tw5495585811053080173 tw13967230255595469710 tw2375121725268062119 tw162089871073968532 tw10700027487794621247 tw5552928548743550162 tw2258016719273683022 tw7190238375723080665 tw5935928575712215285 tw12287061261273561280 tw8279178524062576811 tw13910967860330061605 tw11874169482455406147 tw2041211817836133907 tw2407681603386670736 tw3728448820807875096 tw2023118127128232264 tw7426472708108970077 tw8049288747999480220 tw101226471685897987 tw14850210924186503032 tw3912737575584835434 tw8679141818345183821 tw17437651982468031075 tw8448020635231377730 tw255183357774284016 tw1755660916261672202 tw8145730051991538187 tw15569900226304530270 tw4332350391373337556 tw7611774992098144914 tw12393341065609284835 tw508842173956468400 tw12486586208385133403 tw17113459744221414362 tw2779873130217312333 tw8511380580242431839 tw7019504745600299726 tw5975767934494297276 tw437145403091167524 tw5797314518215879211 tw1671349316762407800 tw6312195723846693619 tw11567016271238003002 tw5332794964050273631 tw1405786495106321646 tw1926599421006680823 tw8124453013599351828 tw2343872342886324288 tw14610316834259203979 tw16509636289946380628 tw15597308433348055043 tw9089656973785709654 tw3570328701157358927 tw5822263874433519340 tw17637278248358867287 tw17426427089972706325 tw8310503369037907111 tw16423039479863016329 tw14444845091048445251 tw18339586764784239225 tw7595794359860018653 tw18203016724350935695 tw4953563036798218570 tw6331004587113821251 tw12160217456857320006 tw2472781684583616964 tw16712935600261332735 tw15399922228467082382 tw4767715900442644505 tw10942856854979847608 tw11879635700691029477 tw10778891630826861010 tw12715488941576252179 tw9582289753070865114 tw11438012354092280310 tw6640882452992664917 tw12343477206048087196 tw10235086183594686785 tw13444940948246218260 tw16231594874443464303 tw261141523301183846 tw4787997572833996697 tw9812439667980300411 tw2449360368334536882 tw2127123868631617842 tw4506058512331040691 tw5237858264864667449 tw9078852709257596531 tw5484375337999546962 tw12434983796352260333 tw9633319983659658614 tw5604480530016162854 tw14786784572101605370 tw9173033381060993645 tw8423286326194475204 tw3975290481370639835 tw16603556172479406490 tw10720065600032195202 tw15333620959628778104 tw12768599363376837284 tw13306572711728886355 tw17686930241209445400 tw13971083881059199431 tw8610481932342465790 tw8691622343214674956 tw11634236950364575603 tw16991509220871781569 tw5420912820742919279 tw5082750258712775431 tw4811022744646354172 tw14386519999642529096 tw12960452252860867697 tw745552104936738852 tw9886908099497485783 tw11067305252569955761 tw5578736320178741459 tw779249947235968492 tw4223810456567615761 tw3454283584358403402 tw2811933083055590527 tw8960486823600106964 tw17884321811034510970 tw4654558035880430258 tw4758823634613214299 tw12902452091660028257 tw11747143897911826735 tw15521266546032640258 tw11352540048500487029 tw9157689805126205742 tw15959146904820698730 tw16370849843934799888 tw7526450402545868455 tw1783063328442318846 tw10965866097873889696 tw15014102238153562192 tw7901143936714132017 tw18375065545078937938 tw16217192119900503522 tw5156274809630052616 tw10814252387551039968 tw7843000678728676721 tw11622315864495256018 tw8140722426171368923 tw126839246524897921 tw15329484866253877681 tw17500065330387440253 tw14316653251232824220 tw8566954056564217903 tw7817097578440475012 tw8261670091641708179 tw3116126153512802196 tw13942570529487146178 tw3170614028611093092 tw4966760324774579986 tw3151619317997832127 tw2319721317775213930 tw4674450378635258254 tw12685369230267202669 tw10551332711840054788 tw7599287662131284474 tw1024806091810060264 tw2422587970245187613 tw6153480482567127682 tw3450842982372750162 tw16158680129429406655 tw6097693641120713062 tw15575387766752102385 tw5205741461246330017 tw8448939010975726887 tw421749774218768026 tw3718148110698000243 tw12565150077119738906 tw216604119758854987 tw7137214003094120834 tw9413437688508933484 tw7561880872360652269 tw2746026369883451495 tw7171037582891433079 tw680975220207281672 tw15638559966354057928 tw8591517090906912626 tw8278133883288763362 tw6663365644318387237 tw12010229439330314973 tw14985956263155857647 tw14510706843552298768 tw2261807988036218141 tw4088036588889198862 tw1443512791352576441 tw16546021579366570746 tw7376391580526059092 tw16099358883619874062 tw15054294041032897241 tw15163721945128805247 tw8565450476432290363 tw15566929174365428984 tw4202095687791902089 tw13791046317296288632 tw12310524822193083098 tw10428201804303197870 tw12490037352940092930 tw14939250917767275763 tw1016205176389871793 tw9495717527791429480 tw9873247381249828701 tw11411643718742091735 tw12785148573529231043 tw15931479552481435242 tw12687838784753336321 tw2448813364500418423 tw3625119632665562095 tw870238105363107248 tw1038167535725793170 tw4397529731025794920 tw4214370188256237806 tw2687444932000455326 tw17117211139237033919 tw13864553391179875937 tw15907488093670842804 tw18202780620942648153 tw16891182081389314589 tw17125069830958039241 tw5205838922153726575 tw8007800736844940106 tw13440225505622218489 tw928132876398153168 tw3548839671719487747 tw5751278743819941162 tw1246831927016017862 tw10598927878717499987 tw17334173420228739063 tw17308208601438440837 tw16649051562164928709 tw300609141795371250 tw13657709783518135907 tw16011477951938058807 tw17620570180104470775 tw2907993210089719890 tw17326198397454215124 tw9132349573250216004 tw10961212189679107052 tw10455028416331767187 tw10201595647180448932 tw17787038912049247811 tw10804338360262068173 tw9943809886407320354 tw8252633539988920966 tw1343812703729747145 tw6112028198172606715 tw732745892675524218 tw5287519958519483827 tw1114298830332368738 tw4076219746891413135 tw15609739945974605219 tw10225579904654715221 tw12522917014789540986 tw10452001232636872476 tw956865262346494853 tw14002436765360458809 tw16369563631108963381 tw11147557440457759897 tw2557350078440183500 tw16734151963084575495 tw17201696507982743223 tw15600264804775480035 tw7955492399255901163 tw6346840574798767145 tw17830143559210076879 tw10643018214739536532 tw2895397313759291574 tw2460645916187984776 tw13700912115203824430 tw7115319206454820598 tw17056731160852232378 tw5858414221712407840 tw14344421030181705498 tw17278312356629733454 tw513176435899111159 tw10491826202487301844 tw16182384671932210818 tw8206519767828220302 tw1585117264428575420 tw16758275728294871705 tw5642862052562477876 tw17801307718049516692 tw11826044750812656621 tw17084093799001078313 tw5698925785564834684 tw15175728354144398496 tw1864224664094384890:True)
open PySem PySem.W PyProof.Rows
local macro_rules | `(tactic| walk_at "fd")=>`(tactic| (refine' L2.FnD.mk ?a ?b ?c ?d ?e; (case a=>k_is); (case b=>k_is); (case c=>k_is); (case d=>k_is); (case e=>k_is)))
local macro_rules | `(tactic| walk_at "fn")=>`(tactic| (refine' L2.jB.mk ?a ?b ?c ?d; (case a=>k_is); (case b=>k_is); (case c=>k_is); (case d=>k_is)))
local macro_rules | `(tactic| walk_at "nb")=>`(tactic| (unfold L2.Nb; k_is))
local macro_rules | `(tactic| walk_at "ni")=>`(tactic| (refine' L2.Ni.mk ?a; (case a=>k_is)))
local macro_rules | `(tactic| walk_at "ns")=>`(tactic| (refine' L2.BL.mk ?a; (case a=>k_is)))
local macro_rules | `(tactic| walk_at "nt")=>`(tactic| (refine' L2.NT.mk ?a ?b; (case a=>k_is); (case b=>k_is)))
set_option maxRecDepth 100000 in
set_option maxHeartbeats 0 in
theorem PySem.Challenge.cw_waithands_k58_fewest_one_by_one_holds : PySem.Challenge.rw_waithands_k58_fewest_one_by_one.Holds := by
 w_on; o_law; k_head; (case hw=>w_witness2)
 k_fill
 refine K58.walk (l:=PySem.Challenge.rw_waithands_k58_fewest_one_by_one) rfl rfl (fun w h Y=>PySem.W.kIn_of Y) ?F
 case F=>
  intro w mg fa h KX G hmg;refine' K58.all_mk KX G hmg ?e0 ?e1 ?e2 ?e3 ?e4 ?e5 ?e6 ?e7 ?e8 ?e9 ?e10 ?Ih ?Ra ?U4 ?U3 ?Oh ?e16 ?e17 ?e18 ?e19 ?e20 ?e21 ?e22 ?e23 ?e24 ?e25 ?e26 ?e27 ?e28 ?e29 ?e30 ?e31 ?e32 ?e33 ?e34 ?e35 ?e36 ?e37 ?e38 ?e39 ?e40 ?e41 ?e42 ?e43 ?e44 ?e45 ?e46 ?e47 ?e48 ?e49 ?e50 ?e51 ?e52 ?e53 ?e54 ?e55 ?e56 ?e57 ?e58 ?e59 ?e60 ?e61 ?e62 ?e63 ?e64 ?e65 ?e66 ?e67 ?e68 ?e69 ?e70 ?e71 ?e72 ?e73 ?e74 ?e75 ?e76 ?e77 ?e78 ?e79 ?e80 ?e81 ?e82 ?e83 ?e84 ?e85 ?e86 ?e87 ?e88 ?e89 ?e90 ?e91 ?e92 ?e93 ?e94 ?e95 ?e96 ?e97 ?e98 ?e99 ?aiq ?aip ?aio ?ain ?aim ?ail ?aik ?aij ?aii ?aih ?aif ?aie ?aid ?X_ ?aic ?aib ?aia ?ah_ ?ah9 ?ah8 ?ah7 ?ah6 ?ah5 ?ah4 ?ah3 ?ah2 ?ah1 ?ah0 ?ahZ ?ahY ?ahX ?ahW
  case e0 | e1 | e2 | e3 | e4 | e5 | e6 | e7 | e8=>walk_at "fn"
  case e9=>walk_at "fd"
  case e10 | Ih | Ra | U4 | U3 | Oh | e16 | e17=>walk_at "fn"
  case e18=>walk_at "fd"
  case e19 | e20 | e21 | e22 | e23 | e24 | e25 | e26 | e27=>walk_at "fn"
  case e28=>walk_at "fd"
  case e29 | e30 | e31 | e32 | e33 | e34 | e35 | e36 | e37 | e38 | e39 | e40 | e41 | e42 | e43 | e44 | e45 | e46 | e47 | e48 | e49=>walk_at "fn"
  case e50 | e51 | e52 | e53 | e54 | e55 | e56 | e57 | e58 | e59=>k_is
  case e60 | e61=>k_exc
  case e62 | e63 | e64=>kts_exm
  case e65 | e66 | e67 | e68 | e69 | e70=>k_is
  case e71 | e72 | e73 | e74 | e75 | e76 | e77 | e78 | e79 | e80 | e81=>kit_is
  case e82=>kts_exm
  case e83 | e84 | e85 | e86 | e87 | e88=>k_is
  case e89 | e90 | e91 | e92 | e93 | e94 | e95 | e96 | e97 | e98 | e99=>kit_is
  case aiq | aip=>k_is
  case aio | ain | aim | ail | aik | aij | aii | aih | aif | aie | aid | X_ | aic | aib | aia | ah_ | ah9 | ah8 | ah7 | ah6=>walk_at "nb"
  case ah5=>walk_at "nt"
  case ah4 | ah3 | ah2=>walk_at "ns"
  case ah1 | ah0 | ahZ | ahY=>walk_at "ni"
  case ahX | ahW=>walk_at "ns"
