import PyProof.Rows.All
import Wide.All
import OpenK.AllK
import Wide.FinOn
import Lean
import PyProof.EqAt
import PyProof.EqKinds
import PyProof.TupleCall
import PyProof.P3In
import PyProof.NeData
import KE.KMinKey
import PyProof.Rows.CallKwBuiltin
import PyProof.LayNew
import PyProof.EnumFor
import PyProof.EnumMake
import PyProof.EnumStmt
import KE.KRevIter
import KE.KRevSl
import PyProof.StationsW
import PyProof.RulesAs
import KE.KTryMore
import PyProof.Rows.TopTwo
import PyProof.NsDelKeeps
import PyProof.ExcArgsOwn
import KE.KIsAll
import PyProof.AutoListH
import PyProof.SetRoads
import PyProof.SetNew
import PyProof.ListRange
import PyProof.Rows.TupDisplay
import PyProof.Draws
import PyProof.ZipIter
import PyProof.TupleIter
import PyProof.AttrMissSeq
import KE.KDictOf
import PySem.Challenge.RW_waithands_k38_begun_anew
set_option Elab.async false
set_option linter.all false
set_option maxRecDepth 100000
section
open PySem PySem.Spec PyProof.Rows
abbrev aW:=@wpAny_bind
abbrev dN:=@List.getElem?_eq_getElem
abbrev bZ:=@List.length_map
abbrev cJ:=@List.getElem?_map
abbrev dW:=@Heap.get?_push_of_some
abbrev fY:=@lookup_relabel_local
abbrev iT:=@List.getElem?_eq_some_iff
abbrev lC:=@List.getD_eq_getElem?_getD
abbrev gJ:=@List.mem_singleton
abbrev cF:=@wpAny_pure
abbrev bI:=@List.mem_cons
abbrev cN:=@List.length_append
abbrev dM:=@List.mem_of_getElem?
abbrev dw:=@Heap.get?_push_size
abbrev bL:=@Nat.le_refl
abbrev cz:=@Heap.lt_size
abbrev dD:=@List.not_mem_nil
abbrev fu:=@List.size_toArray
abbrev aZ:=@if_neg
abbrev g8:=@List.mem_cons_of_mem
abbrev iG:=@List.mem_append_right
abbrev du:=@List.mem_map
abbrev bu:=@if_pos
abbrev fZ:=@List.mem_append
abbrev iV:=@List.mem_cons_self
abbrev gZ:=@List.length_cons
abbrev gY:=@List.map_append
abbrev jE:=@Bool.false_ne_true
abbrev gK:=@Heap.size_push
abbrev fP:=@Nat.ne_of_lt
abbrev jm:=@List.nodup_cons
abbrev iB:=@List.map_cons
abbrev mF:=@Nat.lt_of_lt_of_le
abbrev gw:=@Nat.zero_le
abbrev mD:=@List.length_take
abbrev tH:=@List.length_replicate
abbrev nu:=@List.getElem_mem
abbrev mC:=@decide_eq_false
abbrev pZ:=@List.nodup_append
abbrev oX:=@List.all_eq_true
abbrev iU:=@wpAny_field
abbrev j4:=@Nat.le_trans
abbrev pY:=@List.take_length
abbrev tG:=@of_decide_eq_true
abbrev oW:=@decide_eq_true
abbrev lK:=@Nat.le_of_lt
abbrev vZ:=@List.mem_of_mem_take
abbrev tu:=@Int.toNat_natCast
abbrev uy:=@wpAny_Call_Name_kw
abbrev sZ:=@List.lookup_cons
abbrev sY:=@List.length_drop
abbrev Ds:=@List.getElem?_append_right
abbrev ux:=@wpAny_newObj_type
abbrev oV:=@wpAny_holding
abbrev Dr:=@List.getElem?_zip_eq_some
abbrev qT:=@wpAny_seqItems
abbrev Dq:=@wpAny_callSpecial?_slot
abbrev sX:=@Nat.lt_irrefl
abbrev vY:=@List.length_zip
abbrev vX:=@List.length_nil
abbrev vW:=@Int.emod_nonneg
abbrev Aj:=@Int.emod_lt_of_pos
abbrev xJ:=@wpAny_call_entry
abbrev oU:=@wpAny_mono
abbrev GK:=@Heap.get?_update_other
abbrev KQ:=@List.getElem?_append_left
abbrev KN:=@List.drop_eq_getElem_cons
abbrev Dp:=@of_decide_eq_false
abbrev vV:=@List.sum_cons
abbrev GJ:=@List.mem_of_mem_drop
abbrev GF:=@List.getElem?_of_mem
abbrev Dn:=@wpAny_truthy_bool
abbrev Dm:=@Nat.lt_succ_of_lt
abbrev Dl:=@List.append_assoc
abbrev Dk:=@Nat.lt_succ_self
abbrev GD:=@wpAny_setField_rec
abbrev nq:=@congrArg
abbrev GC:=@Bool.false_eq_true
abbrev Dj:=@List.forIn_cons
abbrev Di:=@List.append_nil
abbrev Gz:=@wpAny_pyIter_list
abbrev vU:=@wpAny_of_eq
abbrev xH:=@List.map_map
abbrev Ai:=@wpAny_standAt
abbrev Oo:=@Option.isSome_iff_exists
abbrev KJ:=@List.replicate_succ
abbrev Gy:=@List.drop_length
abbrev Gx:=@Bool.and_eq_true
abbrev Om:=@List.take_of_length_le
abbrev Gw:=@List.length_set
abbrev KH:=@List.getElem?_set
abbrev Ol:=@List.mem_append_left
abbrev Dh:=@Nat.ne_of_gt
abbrev KD:=@Nat.le_add_right
abbrev RN:=@List.mem_or_eq_of_mem_set
abbrev Oj:=@List.filterMap_cons
abbrev Gv:=@List.map_drop
abbrev Gu:=@List.any_cons
abbrev yU:=@List.find?_cons
abbrev qU:=@wpAny_rule
abbrev DW:=@List.set_cons_succ
abbrev DR:=@List.getElem?_drop
abbrev Jr:=@wpAny_getItem_str_slice
abbrev Jq:=@List.getElem?_replicate
abbrev yS:=@wpAny_tryCatch
abbrev Jp:=@Option.map_eq_some_iff
abbrev v_:=@List.map_set
abbrev Jo:=@Heap.get?_update_self
abbrev v9:=@wpAny_letGo
abbrev DQ:=@wpAny_passesOwn
abbrev DP:=@List.of_mem_zip
abbrev DN:=@List.nil_append
abbrev DK:=@List.mem_filter
abbrev DG:=@Bool.eq_iff_iff
abbrev Jm:=@wpAny_pyIter_tuple
abbrev Dz:=@wpAny_bindName
abbrev Jl:=@List.set_cons_zero
abbrev Dy:=@List.forIn_nil
abbrev Ot:=@Array.getElem?_eq_getElem
abbrev yR:=@Nat.le_succ
abbrev Jk:=@Nat.le_of_succ_le
abbrev Jj:=@List.flatten_cons
abbrev Ji:=@wpAny_pyIter_zip
abbrev Jh:=@List.mem_flatMap
abbrev Dw:=@wpAny_typeOf
abbrev Oq:=@wpAny_pyIter_rangeiter
abbrev Dv:=@Nat.sub_self
abbrev Du:=@Nat.lt_trans
abbrev Dt:=@List.map_nil
end
namespace L2
open PySem PySem.Spec PyProof.Rows
abbrev Key:=Sum Int Str
def y_:Key->Value->Bool
 | .inl k,v=>Value.isInt k v
 | .inr x,v=>Value.isStrOf x v
def acV (w:World):Key->Int
 | .inl k=>hashInt k
 | .inr x=>hashStr w x
theorem cX:∀{k:Key} {v:Value},y_ k v=true->(∃i t,k=Sum.inl i/\v=Value.int i t)\/(∃x t,k=Sum.inr x/\v=Value.str x t)
 | .inl i,v,h=>by
  obtain⟨t,e⟩:=Value.isInt_shape (k:=i) (v:=v) h;exact .inl ⟨i,t,rfl,e⟩
 | .inr x,v,h=>by
  obtain⟨t,e⟩:=Value.isStrOf_shape (x:=x) (v:=v) h;exact .inr ⟨x,t,rfl,e⟩
theorem Lq (i:Int) (t:Tok):y_ (.inl i) (.int i t)=true:=by simp[y_,Value.isInt]
theorem Lp (x:Str) (t:Tok):y_ (.inr x) (.str x t)=true:=by simp[y_,Value.isStrOf]
theorem WT (a b:Int):decide ((Sum.inl a:Key)=Sum.inl b)=(a==b):=by
 by_cases e:a=b
 ·subst e; simp
 ·have h:¬(Sum.inl a:Key)=Sum.inl b:=fun q=>e (Sum.inl.inj q);rw[mC h];exact(beq_eq_false_iff_ne.mpr e).symm
theorem WN (a b:Str):decide ((Sum.inr a:Key)=Sum.inr b)=decide (a=b):=by
 by_cases e:a=b
 ·subst e; simp
 ·have h:¬(Sum.inr a:Key)=Sum.inr b:=fun q=>e (Sum.inr.inj q);rw[mC h,mC e]
theorem WR (a:Int) (b:Str):decide ((Sum.inl a:Key)=Sum.inr b)=false:=mC (fun q=>nomatch q)
theorem WQ (a:Str) (b:Int):decide ((Sum.inr a:Key)=Sum.inl b)=false:=mC (fun q=>nomatch q)
def d7 (prog:Program) (w:World):PySem.KeyKind prog w Key where
 is:=y_
 hash:=acV w
 inj:=fun v a b ha hb=>by
  rcases cX ha with⟨i,t,rfl,rfl⟩ | ⟨x,t,rfl,rfl⟩
  ·rcases cX hb with⟨j,u,rfl,e⟩ | ⟨y,u,rfl,e⟩
   ·injection e with e1 _; rw[e1]
   ·exact nomatch e
  ·rcases cX hb with⟨j,u,rfl,e⟩ | ⟨y,u,rfl,e⟩
   ·exact nomatch e
   ·injection e with e1 _; rw[e1]
 byValue:=fun k v h=>by
  rcases cX h with⟨i,t,rfl,rfl⟩ | ⟨x,t,rfl,rfl⟩ <;> rfl
 pyHash:=fun hv h=>by
  rcases cX hv with⟨i,t,rfl,rfl⟩ | ⟨x,t,rfl,rfl⟩
  ·exact wpAny_pyHash_int h
  ·exact wpAny_pyHash_str h
 eqBool:=fun hu hv h=>by
  rcases cX hu with⟨i,t,rfl,rfl⟩ | ⟨x,t,rfl,rfl⟩
  ·rcases cX hv with⟨j,u,rfl,rfl⟩ | ⟨y,u,rfl,rfl⟩
   ·rw[WT] at h; exact wpAny_eqBool_int h
   ·rw[WR] at h; exact SeqAt.EqAt.int_str i t y u _ _ _ _ h
  ·rcases cX hv with⟨j,u,rfl,rfl⟩ | ⟨y,u,rfl,rfl⟩
   ·rw[WQ] at h; exact SeqAt.EqAt.str_int x t j u _ _ _ _ h
   ·rw[WN] at h; exact wpAny_eqBool_str h
 «strs»:=fun k x t v h=>by
  rcases cX h with⟨i,u,rfl,e⟩ | ⟨y,u,rfl,e⟩
  ·exact nomatch e
  ·injection e with e1 _
   subst e1;cases v <;> rfl
theorem En (prog:Program) (w:World) (i:Int) (t:Tok):(d7 prog w).is (.inl i) (.int i t)=true:=Lq i t
theorem Em (prog:Program) (w:World) (x:Str) (t:Tok):(d7 prog w).is (.inr x) (.str x t)=true:=Lp x t
inductive V where
 | non | bl (b:Bool) | int (i:Int) | str (x:Str) | Mp (b:Array UInt8) | flt (b:UInt64) | ref (a:Addr) | ty (n:String)
 deriving DecidableEq
def RelV:V->Value->Prop
 | .non,u=>u=Value.none
 | .bl b,u=>u=Value.bool b
 | .int i,u=>∃t,u=Value.int i t
 | .str x,u=>∃t,u=Value.str x t
 | .Mp b,u=>∃t,u=Value.bytes b t
 | .flt b,u=>∃t,u=Value.float b t
 | .ref a,u=>u=Value.ref a
 | .ty n,u=>u=Value.type n
abbrev Vals:List V->List Value->Prop:=Paired RelV
theorem Vals.length {xs:List V} {us:List Value} (r:Vals xs us):xs.length=us.length:=Paired.length r
theorem Vals.get:∀{xs:List V} {us:List Value} {i:Nat} {x:V},Vals xs us->xs[i]?=some x->∃u,us[i]?=some u/\RelV x u
 | _,_,_,_,.nil,e=>by simp at e
 | _,_,0,_,.cons r _,e=>by simp at e; subst e; exact⟨_,rfl,r⟩
 | _,_,i+1,x,.cons _ t,e=>by
  obtain⟨u,h1,h2⟩:=Vals.get (i:=i) (x:=x) t (by simpa using e)
  exact⟨u,by simpa using h1,h2⟩
theorem Vals.set {x:V} {u:Value} (r:RelV x u):∀{xs:List V} {us:List Value} (i:Nat),Vals xs us->Vals (xs.set i x) (us.set i u)
 | _,_,_,.nil=>.nil
 | _,_,0,.cons _ t=>.cons r t
 | _,_,i+1,.cons q t=>.cons q (Vals.set r i t)
theorem Vals.append:∀{xs ys:List V} {us ws:List Value},Vals xs us->Vals ys ws->Vals (xs++ys) (us++ws)
 | _,_,_,_,.nil,s=>s
 | _,_,_,_,.cons r t,s=>.cons r (Vals.append t s)
theorem Vals.take:∀{xs:List V} {us:List Value} (n:Nat),Vals xs us->Vals (xs.take n) (us.take n)
 | _,_,0,_=>.nil
 | _,_,_+1,.nil=>.nil
 | _,_,n+1,.cons r t=>.cons r (Vals.take n t)
theorem Vals.drop:∀{xs:List V} {us:List Value} (n:Nat),Vals xs us->Vals (xs.drop n) (us.drop n)
 | _,_,0,r=>r
 | _,_,_+1,.nil=>.nil
 | _,_,n+1,.cons _ t=>Vals.drop n t
def pF:Option V->Option Value->Prop
 | some v,some u=>RelV v u
 | none,none=>True
 | _,_=>False
def KV {κ:Type}:List (κ×V)->List (κ×Value)->Prop:=Paired fun(p:κ×V) (q:κ×Value)=>p.1=q.1/\RelV p.2 q.2
def kV:Key->V
 | .inl i=>.int i
 | .inr x=>.str x
inductive HO where
 | lst (xs:List V)
 | tup (xs:List V)
 | dK (kvs:List (Key×V)) | dT (kvs:List (List Key×V))
 | set (S:Int->Bool) (n:Nat)
 | ins (C dx:Addr) (fs:List (Str×V))
 | own (x:Addr)
 | xd (fs:List (Str×V))
 | met (f x:Addr)
 | Zw (lo hi:Int)
 | rR (o:Obj) (u:HO)
 | Vv (ps:Array Value)
 | ext (φ:Heap->Prop)
abbrev Hp:=Addr->Option HO
def upd (H:Hp) (a:Addr) (o:HO):Hp:=fun b=>if b=a then some o else H b
theorem aC {H:Hp} {a:Addr} {o:HO}:upd H a o a=some o:=by unfold upd; rw[bu rfl]
theorem aN {H:Hp} {a b:Addr} {o:HO} (h:b≠a):upd H a o b=H b:=by unfold upd; rw[aZ h]
theorem Ir {H:Hp} {a:Addr} {o u:HO}:upd (upd H a o) a u=upd H a u:=by
 funext b; unfold upd; split <;> rfl
theorem Z7 {H:Hp} {a b:Addr} {o u:HO} (h:H a=some o) (h':H b=some u) (d:o≠u):a≠b:=by
 intro e; subst e; rw[h] at h'; exact d (Option.some.inj h')
theorem cG {H:Hp} {a b:Addr} {o:HO} (h:H a=some o) (h':H b=none):a≠b:=by
 intro e; subst e; rw[h] at h'; cases h'
section
variable (P:Program) (w:World)
def cC (H:Hp) (h:Heap) (a:Addr):HO->Prop
 | .lst xs=>xs.length<=sizeLine/\∃(its:List Value) (n:Nat),Vals xs its/\h.get? a=some { cls:=.type "list",data:=.seq its.toArray n }
 | .tup xs=>xs.length<=sizeLine/\∃its:List Value,Vals xs its/\IsTup h a its.toArray
 | .dK kvs=>kvs.length<=sizeLine/\(a==sysModules)=false/\∃vs,KV kvs vs/\h.DictOf (d7 P w) a vs
 | .dT kvs=>kvs.length<=sizeLine/\(a==sysModules)=false/\∃xs:List (List Key×Addr×Value),
   Paired (fun(p:List Key×V) (q:List Key×Addr×Value)=>p.1=q.1/\H q.2.1=some (.tup (p.1.map kV))/\RelV p.2 q.2.2) kvs xs /\
   ∃o es ep,h.get? a=some o/\o.ExactDict/\o.data=.dict es ep/\es.toList=xs.map (entryOfKey (tupleKind (d7 P w)))/\(xs.map (·.1)).Nodup
 | .set S n=>h.SetOf (intKind P w) a S n
 | .ins C dx fs=>H dx=some (.own a)/\fs.length<=1000/\dx≠a/\h.get? a=some (PySem.W.instObj C dx) /\
   ∃mA,h.Ns1 dx mA/\(∀f,pF (fs.lookup f) (mA f))/\PySem.Within mA (fs.map (·.1))
 | .own _=>∃o,h.get? a=some o
 | .xd fs=>∃mA,h.Ns1 a mA/\∀f,pF (fs.lookup f) (mA f)
 | .Zw lo hi=>∃t u v,h.get? a=some { cls:=.type "range",data:=.fields #[.int lo t,.int hi u,.int 1 v] }
 | .rR o u=>h.get? a=some o/\cC H h a u
 | .Vv ps=>h.get? a=some { cls:=.none,data:=.fields ps }
 | .met f x=>h.get? a=some (PySem.W.methodObj (.ref f) (.ref x))
 | .ext φ=>φ h/\(∃o,h.get? a=some o)/\∀h1 h2:Heap,φ h1->(∀o,h1.get? a=some o->h2.get? a=some o)->φ h2
def nY (H:Hp) (h:Heap):Prop:=∀a o,H a=some o->cC P w H h a o
end
section
variable {P:Program} {w:World} {H H':Hp} {h h':Heap} {a:Addr} {o:HO}
theorem cC.lt (x:cC P w H h a o):a<h.objs.size:=by
 cases o with
 | lst xs=>obtain⟨_,_,_,_,e⟩:=x; exact cz e
 | tup xs=>obtain⟨_,_,_,p⟩:=x; exact p.lt
 | dK kvs=>obtain⟨_,_,_,_,o,_,_,e,_⟩:=x; exact cz e
 | dT kvs=>obtain⟨_,_,_,_,o,_,_,e,_⟩:=x; exact cz e
 | set S n=>obtain⟨o,_,_,_,e,_⟩:=x; exact cz e
 | ins C dx fs=>obtain⟨_,_,_,e,_⟩:=x; exact cz e
 | own y=>obtain⟨_,e⟩:=x; exact cz e
 | xd fs=>obtain⟨_,⟨_,_,_,e,_⟩,_⟩:=x; exact cz e
 | Zw lo hi=>obtain⟨_,_,_,e⟩:=x; exact cz e
 | rR ob u=>obtain⟨e,_⟩:=x; exact cz e
 | Vv ps=>exact cz (show h.get? a=some _ from x)
 | met f y=>exact cz (show h.get? a=some _ from x)
 | ext φ=>obtain⟨_,⟨_,e⟩,_⟩:=x; exact cz e
theorem Paired.Wu {α β:Type} {F G:α->β->Prop}:∀{l₁:List α} {l₂:List β},Paired F l₁ l₂->(∀a b,F a b->G a b)->Paired G l₁ l₂
 | _,_,.nil,_=>.nil
 | _,_,.cons r t,f=>.cons (f _ _ r) (Paired.Wu t f)
theorem cC.stay (x:cC P w H h a o) (k:∀b u,(b=a\/H b=some (.own a))->h.get? b=some u->h'.get? b=some u)
  (ho:∀b,H b=some (.own a)->H' b=some (.own a)) (ht:∀b xs,H b=some (.tup xs)->H' b=some (.tup xs)):cC P w H' h' a o:=by
 induction o with
 | lst xs=>obtain⟨z,its,n,r,e⟩:=x; exact⟨z,its,n,r,k _ _ (.inl rfl) e⟩
 | tup xs=>obtain⟨z,its,r,ob,e,c⟩:=x; exact⟨z,its,r,ob,k _ _ (.inl rfl) e,c⟩
 | dK kvs=>obtain⟨z,y,vs,r,ob,es,ep,e,c⟩:=x; exact⟨z,y,vs,r,ob,es,ep,k _ _ (.inl rfl) e,c⟩
 | dT kvs=>
  obtain⟨z,y,xs,r,ob,es,ep,e,c⟩:=x;exact⟨z,y,xs,Paired.Wu r fun p q z=>⟨z.1,ht _ _ z.2.1,z.2.2⟩,ob,es,ep,k _ _ (.inl rfl) e,c⟩
 | set S n=>obtain⟨ob,es,ep,t,e,c⟩:=x; exact⟨ob,es,ep,t,k _ _ (.inl rfl) e,c⟩
 | ins C dx fs=>
  obtain⟨d,z,ne,e,mA,⟨od,es,ep,e2,c⟩,r⟩:=x;exact⟨ho _ d,z,ne,k _ _ (.inl rfl) e,mA,⟨od,es,ep,k _ _ (.inr d) e2,c⟩,r⟩
 | own y=>obtain⟨ob,e⟩:=x; exact⟨ob,k _ _ (.inl rfl) e⟩
 | xd fs=>obtain⟨mA,⟨od,es,ep,e,c⟩,r⟩:=x; exact⟨mA,⟨od,es,ep,k _ _ (.inl rfl) e,c⟩,r⟩
 | Zw lo hi=>obtain⟨t,u,v,e⟩:=x; exact⟨t,u,v,k _ _ (.inl rfl) e⟩
 | rR ob u ih=>obtain⟨e,q⟩:=x; exact⟨k _ _ (.inl rfl) e,ih q⟩
 | Vv ps=>
  have e:h.get? a=some { cls:=.none,data:=.fields ps }:=x;show h'.get? a=some { cls:=.none,data:=.fields ps };exact k a _ (.inl rfl) e
 | met f y=>
  have e:h.get? a=some (PySem.W.methodObj (.ref f) (.ref y)):=x;show h'.get? a=some (PySem.W.methodObj (.ref f) (.ref y));exact k a _ (.inl rfl) e
 | ext φ=>obtain⟨p,⟨o,e⟩,st⟩:=x; exact⟨st _ _ p fun o q=>k _ _ (.inl rfl) q,⟨o,k _ _ (.inl rfl) e⟩,st⟩
theorem nY.lt (x:nY P w H h) (e:H a=some o):a<h.objs.size:=(x a o e).lt
theorem nY.fresh (x:nY P w H h) (e:h.objs.size<=a):H a=none:=by
 cases q:H a with
 | none=>rfl
 | some u=>exact absurd (mF (x.lt q) e) (sX _)
theorem nY.kept (x:nY P w H h) (k:∀b u,h.get? b=some u->h'.get? b=some u):nY P w H h':=fun a o e=>
 (x a o e).stay (fun b u _ q=>k b u q) (fun _ q=>q) fun _ _ q=>q
theorem nY.laid (x:nY P w H h) (k:∀b u,h.get? b=some u->h'.get? b=some u) (hp:h.objs.size<=a) (new:cC P w (upd H a o) h' a o):nY P w (upd H a o) h':=fun b u e=>by
 have hn:=x.fresh hp;by_cases hb:b=a
 ·subst hb; rw[aC] at e; cases e; exact new
 ·rw[aN hb] at e;exact(x b u e).stay (fun c v _ q=>k c v q) (fun c q=>by rw[aN (cG q hn)]; exact q) fun c xs q=>by rw[aN (cG q hn)]; exact q
end
def Rd (H:Hp) (a:Addr) (u:HO):Prop:=H a=some u\/∃o,H a=some (.rR o u)
theorem Rd.ok {P:Program} {w:World} {H:Hp} {h:Heap} {a:Addr} {u:HO} (r:Rd H a u) (x:nY P w H h):cC P w H h a u:=by
 rcases r with r | ⟨o,r⟩
 ·exact x a u r
 ·obtain⟨_,q⟩:=x a _ r;exact q
def Mut:Option HO->Prop
 | some (.lst _)=>True
 | some (.dK _)=>True
 | some (.dT _)=>True
 | some (.set _ _)=>True
 | some (.ins _ _ _)=>True
 | some (.ext _)=>True
 | _=>False
section
variable {P:Program} {w:World} {H:Hp} {h h':Heap} {x e:Addr} {o':HO}
theorem nY.write (ok:nY P w H h) (mu:Mut (H x)) (he:e=x\/H e=some (.own x)) (k:∀b u,b≠e->h.get? b=some u->h'.get? b=some u) (heo:∃u,h'.get? e=some u)
  (new:cC P w (upd H x o') h' x o'):nY P w (upd H x o') h':=fun b u q=>by
 have Z5:∀c y,H c=some (.own y)->c≠x:=fun c y r z=>by subst z; rw[r] at mu; exact mu
 have acJ:∀c xs,H c=some (.tup xs)->c≠x:=fun c xs r z=>by subst z; rw[r] at mu; exact mu
 by_cases hb:b=x
 ·subst hb; rw[aC] at q; cases q; exact new
 ·rw[aN hb] at q;by_cases hbe:b=e
  ·have q':H b=some (.own x):=by
    rcases he with z | z
    ·exact absurd (hbe.trans z) hb
    ·rw[hbe]; exact z
   rw[q] at q'; cases q';obtain⟨v,hv⟩:=heo;exact⟨v,by rw[hbe]; exact hv⟩
  ·refine(ok b u q).stay (fun c v hc r=>k c v ?_ r) (fun c r=>by rw[aN (Z5 c b r)]; exact r) fun c xs r=>by rw[aN (acJ c xs r)]; exact r
   rcases hc with rfl | hc
   ·exact hbe
   ·rintro rfl;rcases he with z | z
    ·exact Z5 c b hc z
    ·rw[hc] at z; cases z; exact hb rfl
end
structure Un (fs ex:List Addr) (H H':Hp) (h h':Heap):Prop where
 keep:∀b o,h.get? b=some o->H b=none->b∉fs->b∉ex->h'.get? b=some o
 slot:∀b o,h.get? b=some o->H b=none->b∈fs->b∉ex->∃sl,h'.get? b=some { o with slots:=sl }
 free:∀b o,h.get? b=some o->H b=none->b∉ex->H' b=none
 there:∀b o,h.get? b=some o->b∉ex->∃o',h'.get? b=some o'
 tups:∀b xs,H b=some (.tup xs)->H' b=some (.tup xs)
 wZ:∀b o u,H b=some (.rR o u)->H' b=some (.rR o u)
 z8:∀b ps,H b=some (.Vv ps)->∃more,H' b=some (.Vv (ps++more))
section
variable {fs fs' ex ex':List Addr} {H H1 H2:Hp} {h h1 h2 h':Heap} {a x e:Addr} {o:HO}
theorem Un.any (u:Un fs ex H H1 h h1) {b:Addr} {ob:Obj} (q:h.get? b=some ob) (n:H b=none) (hx:b∉ex):∃sl,h1.get? b=some { ob with slots:=sl }:=by
 by_cases hb:b∈fs
 ·exact u.slot b ob q n hb hx
 ·exact⟨ob.slots,u.keep b ob q n hb hx⟩
theorem Un.kept (k:∀b u,h.get? b=some u->h'.get? b=some u):Un fs ex H H h h':=
 ⟨fun b ob q _ _ _=>k b ob q,fun b ob q _ _ _=>⟨ob.slots,k b ob q⟩,fun _ _ _ n _=>n,fun b ob q _=>⟨ob,k b ob q⟩,fun _ _ q=>q,fun _ _ _ q=>q,fun _ ps q=>⟨#[],by rw[q]; simp⟩⟩
theorem Un.refl:Un fs ex H H h h:=Un.kept fun _ _ q=>q
theorem Un.laid (k:∀b u,h.get? b=some u->h'.get? b=some u) (hp:h.objs.size<=a) (hn:H a=none):Un fs ex H (upd H a o) h h' where
 keep:=fun b u q _ _ _=>k b u q
 slot:=fun b u q _ _ _=>⟨u.slots,k b u q⟩
 free:=fun b u q n _=>by rw[aN (fP (mF (cz q) hp))]; exact n
 there:=fun b u q _=>⟨u,k b u q⟩
 tups:=fun b xs q=>by rw[aN (cG q hn)]; exact q
 wZ:=fun b u xs q=>by rw[aN (cG q hn)]; exact q
 z8:=fun b ps q=>⟨#[],by rw[aN (cG q hn),q]; simp⟩
theorem Un.write (mu:Mut (H x)) (he:e=x\/H e=some (.own x)) (k:∀b u,b≠e->h.get? b=some u->h'.get? b=some u) (heo:∃u,h'.get? e=some u):Un fs ex H (upd H x o) h h':=by
 have hx:∀b,H b=none->b≠x:=fun b n z=>by subst z; rw[n] at mu; exact mu
 have hb:∀b,H b=none->b≠e:=fun b n z=>by
  subst z;rcases he with r | r
  ·exact hx b n r
  ·rw[n] at r; cases r
 have hm:∀b u,H b=some u->¬Mut (some u)->b≠x:=fun b u q nm z=>by subst z; rw[q] at mu; exact nm mu
 refine⟨fun b u q n _ _=>k b u (hb b n) q,fun b u q n _ _=>⟨u.slots,k b u (hb b n) q⟩,fun b u q n _=>by rw[aN (hx b n)]; exact n,fun b u q _=>?_,
  fun b xs q=>by rw[aN (hm b _ q fun z=>z)]; exact q,fun b u xs q=>by rw[aN (hm b _ q fun z=>z)]; exact q,fun b ps q=>⟨#[],by rw[aN (hm b _ q fun z=>z),q]; simp⟩⟩
 by_cases hbe:b=e
 ·subst hbe; exact heo
 ·exact⟨u,k b u hbe q⟩
end
def trk (h:Heap) (H:Hp):List Addr:=(List.range h.objs.size).filter fun a=>(H a).isSome
def Br (h:Heap) (H:Hp):Heap:=PySem.W.hideAll h (trk h H)
theorem Lx (h:Heap) (H:Hp):(Br h H).objs.size=h.objs.size:=PySem.W.hideAll_size _ _
theorem Pz {h:Heap} {H:Hp} {b:Addr} {o:Obj} (e:h.get? b=some o) (n:H b=none):(Br h H).get? b=some o:=
 PySem.W.hideAll_get _ e fun hm=>by
  have q:(H b).isSome=true:=(DK.mp hm).2;rw[n] at q; simp at q
theorem Sv {h:Heap} {H:Hp} {b:Addr} {o:Obj} (e:(Br h H).get? b=some o):h.get? b=some o/\H b=none:=by
 have e':h.get? b=some o:=PySem.W.of_hideAll (trk h H) e;refine⟨e',?_⟩;cases q:H b with
 | none=>rfl
 | some x=>
  have hm:b∈trk h H:=DK.mpr ⟨List.mem_range.mpr (cz e'),by simp[q]⟩
  have z:(Br h H).get? b=none:=PySem.W.hideAll_none (trk h H) hm;rw[z] at e; cases e
def T8 (g h:Heap) (L:Addr):List (Addr×Obj):=(List.range h.objs.size).filterMap fun a=>if a=L\/(g.get? a).isSome=true then none else(h.get? a).map fun o=>(a,o)
def rest (g h:Heap) (L d:Addr):List (Addr×Obj):=(T8 g h L).filter fun p=>decide (p.1≠d)
structure Mod (K:PySem.W.Frag) (mg:Str->Option Value) (base:Heap):Prop where
 U4:K.In base
 glob:base.Ns mainGlobals mg
 blt:∃mb,base.Ns builtinsNs mb/\∀x:Str,x ≠ "__name__" -> mb x=bootBuiltins x
 nolimit:base.NoLimit
structure Cx where
 prog:Program
 w:World
 K:PySem.W.Frag
 mg:Str->Option Value
 base:Heap
 A:Around
 N:List Str
 s₀:Shared
 H₀:Hp
 env:Env
 outer:List Env
 stack:List Env
 ex:List Addr
 fn:Str->Bool
 calm:Bool
 pn:List (Addr×Obj)
 xe:Value->Shared->Prop
def frs (l:List Env):List Addr:=l.filterMap (·.frame)
abbrev Cx.fs (X:Cx):List Addr:=frs X.outer
def Vis (sc:Scope) (x:Str):Prop:=sc.names.lookup x=some .local\/sc.names.lookup x=some .cell\/sc.names.lookup x=some .free
def Loc (sc:Scope) (x:Str):Prop:=sc.names.lookup x=some .local\/sc.names.lookup x=some .cell
def Look (env:Env) (h:Heap) (m:Str->Option Value) (x:Str) (u:Value):Prop:=
 (env.kindOf x=some .local/\m x=some u)\/((env.kindOf x=some .cell\/env.kindOf x=some .free)/\∃c,env.cells.lookup x=some c/\h.IsCell c (some u))
structure Cx.Ok (X:Cx):Prop where
 mod:Mod X.K X.mg X.base
 kind:X.env.scope.kind=.function
 glob:X.env.globals=mainGlobals
 blt:X.env.builtins=builtinsNs
 above:X.s₀.heap.objs.size<=X.env.locals
 inj:∀x y c,X.env.cells.lookup x=some c->X.env.cells.lookup y=some c->x=y
 has:∀x,(X.env.kindOf x=some .cell\/X.env.kindOf x=some .free)->∃c,X.env.cells.lookup x=some c
 cab:∀x c,X.fn x=true->X.env.cells.lookup x=some c->X.s₀.heap.objs.size<=c
 hd:X.calm=true->X.A.handled=none
 frames:X.A.frames=some X.stack
 stk:X.stack=X.outer\/(X.stack=X.env::X.outer/\X.env.frame=some X.env.locals)
 exf:∀b∈X.ex,b≠X.env.locals/\∀x c,X.env.cells.lookup x=some c->c≠b
 bs:∀b o,X.base.get? b=some o->X.s₀.heap.get? b=some o/\X.H₀ b=none
 My:X.base.objs.size<=X.s₀.heap.objs.size
 Hg:∀b o,X.base.get? b=some o->b∉X.ex
 Ma:∀b∈X.ex,b∉X.fs
 uK:X.s₀.heap.FunFrames X.base X.outer
 Xf:∀b∈X.fs,X.H₀ b=none
structure Inv (X:Cx) (pins:List (Addr×Obj)) (σ:List (Option V)) (H:Hp) (s:Shared):Prop where
 ok:X.Ok
 os:s.os=X.s₀.os
 bare:AllBare s.gens
 base:Un X.fs X.ex X.H₀ H X.s₀.heap s.heap
 loc:∃m,s.heap.Ns X.env.locals m/\∀(i:Nat) (x:Str) (v:V),X.N[i]?=some x->σ[i]?=some (some v)->Vis X.env.scope x->∃u,RelV v u/\Look X.env s.heap m x u
 cell:∀x c,X.env.cells.lookup x=some c->∃v,s.heap.IsCell c v
 free:H X.env.locals=none
 kW:∀x c,X.env.cells.lookup x=some c->H c=none
 pin:∀p∈X.pn++pins,s.heap.get? p.1=some p.2/\H p.1=none/\p.1≠X.env.locals/\p.1∉X.fs/\∀v,p.2.data≠.cell v
 hok:nY X.prog X.w H s.heap
 len:σ.length=X.N.length
section
variable {X:Cx} {pins:List (Addr×Obj)} {σ:List (Option V)} {H H':Hp} {s:Shared} {h':Heap}
theorem Cx.Ok.acN (ok:X.Ok) {b:Addr} {o:Obj} (e:X.base.get? b=some o):b∉X.fs:=fun hb=>by
 have:=(ok.uK.mem hb).1;rw[e] at this; cases this
theorem Inv.bs (I:Inv X pins σ H s):∀b o,X.base.get? b=some o->s.heap.get? b=some o/\H b=none:=fun b o e=>
 ⟨I.base.keep b o (I.ok.bs b o e).1 (I.ok.bs b o e).2 (I.ok.acN e) (I.ok.Hg b o e),I.base.free b o (I.ok.bs b o e).1 (I.ok.bs b o e).2 (I.ok.Hg b o e)⟩
theorem Inv.bk (I:Inv X pins σ H s):∀b o,X.base.get? b=some o->s.heap.get? b=some o:=fun b o e=>(I.bs b o e).1
theorem Inv.mod (I:Inv X pins σ H s):Mod X.K X.mg X.base:=I.ok.mod
theorem Inv.mH (I:Inv X pins σ H s):X.K.In s.heap:=I.ok.mod.U4.keeps I.bk
theorem Inv.fr (I:Inv X pins σ H s):∃m,Fr X.base X.env.locals s.heap m:=
 let ⟨m,hn,_⟩:=I.loc
 ⟨m,hn,I.bk,j4 I.ok.My I.ok.above⟩
theorem Inv.lt (I:Inv X pins σ H s):X.env.locals<s.heap.objs.size:=let ⟨_,hn,_⟩:=I.loc; hn.lt
theorem Inv.sz (I:Inv X pins σ H s):X.s₀.heap.objs.size<=s.heap.objs.size:=j4 I.ok.above (lK I.lt)
theorem Inv.acM (I:Inv X pins σ H s) {a:Addr} (h:s.heap.objs.size<=a):a∉X.fs:=fun hb=>by
 obtain⟨_,o,ho,_⟩:=I.ok.uK.mem hb;exact absurd (mF (cz ho) (j4 I.sz h)) (sX _)
theorem Inv.Xq (I:Inv X pins σ H s):∀x c,X.env.cells.lookup x=some c->c≠X.env.locals:=fun x c e z=>by
 obtain⟨v,o,ho,hd⟩:=I.cell x c e;obtain⟨m,⟨o',es,ep,ho',hd',_⟩,_⟩:=I.loc;rw[z,ho'] at ho; cases ho; rw[hd'] at hd; cases hd
theorem Inv.uK (I:Inv X pins σ H s):s.heap.FunFrames X.base X.outer:=by
 have all:∀(l:List Env),(∀b∈frs l,b∈X.fs)->X.s₀.heap.FunFrames X.base l->s.heap.FunFrames X.base l:=by
  intro l
  induction l with
  | nil=>intro _ _; trivial
  | cons env r ih=>
   intro hs hl;obtain⟨hk,⟨L,o,hf,hn,ho,hd⟩,hr⟩:=hl;have hL:L∈X.fs:=hs L (by unfold frs; rw[Oj,hf]; exact iV)
   obtain⟨sl,e⟩:=I.base.slot L o ho (I.ok.Xf L hL) hL fun z=>I.ok.Ma L z hL;exact⟨hk,⟨L,_,hf,hn,e,hd⟩,ih (fun b hb=>hs b (by unfold frs; rw[Oj,hf]; exact g8 _ hb)) hr⟩
 exact all X.outer (fun _ hb=>hb) I.ok.uK
theorem Inv.stack (I:Inv X pins σ H s):s.heap.FunFrames X.base X.stack:=by
 rcases I.ok.stk with e | ⟨e,hf⟩
 ·rw[e]; exact I.uK
 ·rw[e];obtain⟨m,hn,_⟩:=I.loc;refine .cons (by rw[I.ok.kind]; decide) hf hn ?_ I.uK
  exact Heap.get?_none_of_le (j4 I.ok.My I.ok.above)
theorem Inv.Ge (I:Inv X pins σ H s):∀b∈frs X.stack,b∈X.env.locals::X.fs:=fun b hb=>by
 rcases I.ok.stk with e | ⟨e,hf⟩
 ·rw[e] at hb; exact g8 _ hb
 ·rw[e] at hb;unfold frs at hb;rw[Oj,hf] at hb;exact hb
theorem Inv.IW (I:Inv X pins σ H s):∀b∈frs X.stack,H b=none:=fun b hb=>by
 rcases bI.mp (I.Ge b hb) with e | hb
 ·rw[e]; exact I.free
 ·obtain⟨_,o,ho,_⟩:=I.ok.uK.mem hb;exact I.base.free b o ho (I.ok.Xf b hb) fun z=>I.ok.Ma b z hb
theorem Inv.step {g':Array GenState} {t':Nat} {d':Drawn} {ch:List Addr} (I:Inv X pins σ H s)
  (hch:∀b∈ch,(b∈X.ex\/X.s₀.heap.objs.size<=b)/\b≠X.env.locals/\(∀x c,X.env.cells.lookup x=some c->c≠b)/\∀p∈X.pn++pins,p.1≠b)
  (keep:∀b o,b≠X.env.locals->b∉X.fs->b∉ch->s.heap.get? b=some o->H b=none->h'.get? b=some o)
  (slot:∀b o,b≠X.env.locals->b∈X.fs->b∉ch->s.heap.get? b=some o->H b=none->∃sl,h'.get? b=some { o with slots:=sl }) (free:∀b o,b∉ch->s.heap.get? b=some o->H b=none->H' b=none)
  (there:∀b o,b∉ch->s.heap.get? b=some o->∃o',h'.get? b=some o')
  (tups:∀b xs,H b=some (.tup xs)->H' b=some (.tup xs)) (wZ:∀b o u,H b=some (.rR o u)->H' b=some (.rR o u)) (z8:∀b ps,H b=some (.Vv ps)->∃more,H' b=some (.Vv (ps++more)))
  (ns:∀m,s.heap.Ns X.env.locals m->h'.Ns X.env.locals m) (hok:nY X.prog X.w H' h') (hg:AllBare g') :
  Inv X pins σ H' { s with heap:=h',gens:=g',drawn:=d',toks:=t' }:=by
 have neL:∀b o,X.s₀.heap.get? b=some o->b≠X.env.locals:=fun b o e=>fP (mF (cz e) I.ok.above)
 have neC:∀b o,X.s₀.heap.get? b=some o->b∉X.ex->b∉ch:=fun b o e hx hb=>by
  rcases(hch b hb).1 with z | z
  ·exact hx z
  ·exact absurd (mF (cz e) z) (sX _)
 have cellK:∀x c,X.env.cells.lookup x=some c->∀v,s.heap.IsCell c v->h'.IsCell c v:=fun x c e v ⟨o,ho,hd⟩=>by
  have Z9:c∉ch:=fun z=>(hch c z).2.2.1 x c e rfl;by_cases hc:c∈X.fs
  ·obtain⟨sl,q⟩:=slot c o (I.Xq x c e) hc Z9 ho (I.kW x c e);exact⟨_,q,hd⟩
  ·exact⟨o,keep c o (I.Xq x c e) hc Z9 ho (I.kW x c e),hd⟩
 refine⟨I.ok,I.os,hg,⟨fun b o e n hb hx=>?_,fun b o e n hb hx=>?_,fun b o e n hx=>?_,fun b o e hx=>?_,fun b xs e=>tups b xs (I.base.tups b xs e),fun b o xs e=>wZ b o xs (I.base.wZ b o xs e),fun b ps e=>?_⟩,?_,fun x c e=>?_,?_,fun x c e=>?_,fun p hp=>?_,hok,I.len⟩
 ·exact keep b o (neL b o e) hb (neC b o e hx) (I.base.keep b o e n hb hx) (I.base.free b o e n hx)
 ·obtain⟨sl,e1⟩:=I.base.slot b o e n hb hx;obtain⟨sl',e2⟩:=slot b _ (neL b o e) hb (neC b o e hx) e1 (I.base.free b o e n hx);exact⟨sl',e2⟩
 ·obtain⟨o',e1⟩:=I.base.there b o e hx;exact free b o' (neC b o e hx) e1 (I.base.free b o e n hx)
 ·obtain⟨o',e1⟩:=I.base.there b o e hx;exact there b o' (neC b o e hx) e1
 ·obtain⟨m1,e1⟩:=I.base.z8 b ps e;obtain⟨m2,e2⟩:=z8 b _ e1;exact⟨m1++m2,by rw[e2,Array.append_assoc]⟩
 ·obtain⟨m,hn,hl⟩:=I.loc;refine⟨m,ns m hn,fun i x v e1 e2 e3=>?_⟩;obtain⟨u,r,l⟩:=hl i x v e1 e2 e3;refine⟨u,r,?_⟩;rcases l with l | ⟨k,c,e,z⟩
  ·exact .inl l
  ·exact .inr ⟨k,c,e,cellK x c e _ z⟩
 ·obtain⟨v,z⟩:=I.cell x c e;exact⟨v,cellK x c e v z⟩
 ·obtain⟨m,⟨o,_,_,ho,_⟩,_⟩:=I.loc;exact free _ o (fun z=>(hch _ z).2.1 rfl) ho I.free
 ·obtain⟨v,o,ho,hd⟩:=I.cell x c e;exact free c o (fun z=>(hch c z).2.2.1 x c e rfl) ho (I.kW x c e)
 ·obtain⟨e,n,ne,nf,d⟩:=I.pin p hp;have Z9:p.1∉ch:=fun z=>(hch p.1 z).2.2.2 p hp rfl;exact⟨keep p.1 p.2 ne nf Z9 e n,free p.1 p.2 Z9 e n,ne,nf,d⟩
theorem Inv.un {t':Nat} (I:Inv X pins σ H s) (u:Un X.fs [] H H' s.heap h') (hok:nY X.prog X.w H' h'):Inv X pins σ H' { s with heap:=h',toks:=t' }:=by
 obtain⟨m,⟨o,es,ep,ho,r⟩,_⟩:=id I.loc;obtain⟨sl,hL⟩:=u.any ho I.free (by simp)
 exact I.step (g':=s.gens) (d':=s.drawn) (ch:=[]) (fun _ z=>nomatch z) (fun b o _ hb _ e n=>u.keep b o e n hb (by simp)) (fun b o _ hb _ e n=>u.slot b o e n hb (by simp)) (fun b o _ e n=>u.free b o e n (by simp)) (fun b o _ e=>u.there b o e (by simp)) u.tups u.wZ u.z8 (fun m' hm=>by
  obtain⟨o',es',ep',ho',r'⟩:=hm;rw[ho] at ho'; cases ho'
  exact⟨_,es',ep',hL,r'⟩) hok I.bare
theorem Inv.call {g':Array GenState} {t':Nat} {d':Drawn} {ch:List Addr} (I:Inv X pins σ H s) (u:Un (frs X.stack) ch H H' s.heap h') (hok:nY X.prog X.w H' h') (hg:AllBare g')
  (hch:∀b∈ch,(b∈X.ex\/X.s₀.heap.objs.size<=b)/\b≠X.env.locals/\(∀x c,X.env.cells.lookup x=some c->c≠b)/\∀p∈X.pn++pins,p.1≠b) :
  Inv X pins σ H' { s with heap:=h',gens:=g',drawn:=d',toks:=t' }:=by
 obtain⟨m,⟨o,es,ep,ho,r⟩,_⟩:=id I.loc;obtain⟨sl,hL⟩:=u.any ho I.free fun z=>(hch _ z).2.1 rfl
 exact I.step (ch:=ch) hch (fun b o hL hb hc e n=>u.keep b o e n (fun z=>(bI.mp (I.Ge b z)).elim hL hb) hc) (fun b o _ _ hc e n=>u.any e n hc) (fun b o hc e n=>u.free b o e n hc) (fun b o hc e=>u.there b o e hc) u.tups u.wZ u.z8 (fun m' hm=>by
  obtain⟨o',es',ep',ho',r'⟩:=hm;rw[ho] at ho'; cases ho'
  exact⟨_,es',ep',hL,r'⟩) hok hg
theorem Inv.turned {t':Nat} {it:Addr} (I:Inv X pins σ H s) (k:∀b o,b≠it->s.heap.get? b=some o->h'.get? b=some o) (hn:H it=none) (hL:it≠X.env.locals)
  (h1:it∈X.ex\/X.s₀.heap.objs.size<=it) (h2:∀x c,X.env.cells.lookup x=some c->c≠it) (h3:∀p∈X.pn++pins,p.1≠it):Inv X pins σ H { s with heap:=h',toks:=t' }:=by
 have nit:∀b u,H b=some u->b≠it:=fun b u e z=>by rw[z,hn] at e; cases e
 refine I.step (g':=s.gens) (d':=s.drawn) (ch:=[it]) (fun b hb=>?_) (fun b o _ _ hc e _=>k b o (fun z=>hc (by simp[z])) e) (fun b o _ _ hc e _=>⟨o.slots,k b o (fun z=>hc (by simp[z])) e⟩) (fun _ _ _ _ n=>n)
  (fun b o hc e=>⟨o,k b o (fun z=>hc (by simp[z])) e⟩) (fun _ _ e=>e) (fun _ _ _ e=>e) (fun b ps e=>⟨#[],by rw[e]; simp⟩) (fun m hm=>?_) (fun b u e=>?_) I.bare
 ·have e:b=it:=by simpa using hb
  subst e;exact⟨h1,hL,h2,h3⟩
 ·obtain⟨o,es,ep,ho,r⟩:=hm;exact⟨o,es,ep,k _ o (Ne.symm hL) ho,r⟩
 ·refine(I.hok b u e).stay (fun c v hc q=>k c v ?_ q) (fun _ q=>q) fun _ _ q=>q;rcases hc with z | z
  ·rw[z]; exact nit b u e
  ·exact nit c _ z
theorem Inv.tok (I:Inv X pins σ H s) (t:Nat):Inv X pins σ H { s with toks:=t }:=I.un (h':=s.heap) (t':=t) Un.refl I.hok
theorem Inv.kept {t':Nat} (I:Inv X pins σ H s) (k:∀b u,s.heap.get? b=some u->h'.get? b=some u):Inv X pins σ H { s with heap:=h',toks:=t' }:=I.un (Un.kept k) (I.hok.kept k)
theorem Inv.laid {a:Addr} {o:HO} {t':Nat} (I:Inv X pins σ H s) (k:∀b u,s.heap.get? b=some u->h'.get? b=some u) (hp:s.heap.objs.size<=a) (new:cC X.prog X.w (upd H a o) h' a o) :
  Inv X pins σ (upd H a o) { s with heap:=h',toks:=t' }:=I.un (Un.laid k hp (I.hok.fresh hp)) (I.hok.laid k hp new)
theorem Inv.write {x e:Addr} {o:HO} {t':Nat} (I:Inv X pins σ H s) (mu:Mut (H x)) (he:e=x\/H e=some (.own x)) (k:∀b u,b≠e->s.heap.get? b=some u->h'.get? b=some u) (heo:∃u,h'.get? e=some u)
  (new:cC X.prog X.w (upd H x o) h' x o):Inv X pins σ (upd H x o) { s with heap:=h',toks:=t' }:=I.un (Un.write mu he k heo) (I.hok.write mu he k heo new)
theorem Inv.weak {σ':List (Option V)} (I:Inv X pins σ H s) (hl:σ'.length=σ.length) (w:∀(i:Nat) v,σ'[i]?=some (some v)->σ[i]?=some (some v)):Inv X pins σ' H s:=
 ⟨I.ok,I.os,I.bare,I.base,let ⟨m,hn,hl'⟩:=I.loc; ⟨m,hn,fun i x v e1 e2 e3=>hl' i x v e1 (w i v e2) e3⟩,I.cell,I.free,I.kW,I.pin,I.hok,hl.trans I.len⟩
theorem Inv.Js {UL:List (Addr×Obj)} (I:Inv X pins σ H s) (h:∀p∈UL,s.heap.get? p.1=some p.2/\H p.1=none/\p.1≠X.env.locals/\p.1∉X.fs/\∀v,p.2.data≠.cell v):Inv X UL σ H s:=
 ⟨I.ok,I.os,I.bare,I.base,I.loc,I.cell,I.free,I.kW,fun p hp=>(fZ.mp hp).elim (fun z=>I.pin p (Ol _ z)) (h p),I.hok,I.len⟩
theorem Ej {N:List Str} (hN:N.Nodup) {i j:Nat} {x:Str} (a:N[i]?=some x) (b:N[j]?=some x):i=j:=by
 obtain⟨h1,e1⟩:=iT.mp a;obtain⟨h2,e2⟩:=iT.mp b;exact(List.getElem_inj hN).mp (e1.trans e2.symm)
theorem Ku {M:Model} {A:Around} {E:Value->Shared->Prop} {i:Nat} {x:Str} {v:V} {u:Value} {Q:Unit->Shared->Prop} (I:Inv X pins σ H s) (hN:X.N.Nodup) (hi:X.N[i]?=some x) (hx:Loc X.env.scope x) (r:RelV v u)
  (h:∀s',Inv X pins (σ.set i (some v)) H s'->(∃a,Heap.SameBut a s.heap s'.heap/\(a=X.env.locals\/X.env.cells.lookup x=some a))->Q () s') (hf:X.fn x=true\/X.env.scope.names.lookup x=some .local:=by first | exact .inl rfl | exact .inr rfl | assumption):wpAny M A (storeName X.env x u) Q E s:=by
 obtain⟨m,hn,hl⟩:=id I.loc;have hcls:(X.env.scope.kind==.class || (X.env.scope.kind==.module&&X.env.locals != X.env.globals))=false:=by rw[I.ok.kind]; rfl
 have hiσ:i<σ.length:=by rw[I.len]; exact(iT.mp hi).1
 have Xq:=I.Xq
 have tracked:∀{a:Addr} {h':Heap},(∃o,s.heap.get? a=some o/\H a=none)->Heap.SameBut a s.heap h'->nY X.prog X.w H h':=fun {a h'} ha hs b ob e=>by
  obtain⟨_,_,hfree⟩:=ha;refine(I.hok b ob e).stay (fun c w' hc q=>(hs.2 c ?_).trans q) (fun _ q=>q) fun _ _ q=>q;rintro rfl;rcases hc with rfl | hc
  ·rw[hfree] at e; cases e
  ·rw[hfree] at hc; cases hc
 rcases hx with hk | hk
 ·refine wpAny_storeName_local hk hn (fun h' hn' hs=>?_) hcls;obtain⟨oL,_,_,hoL,_⟩:=id hn;refine h _ ⟨I.ok,I.os,I.bare,⟨fun b o e n hb hx=>?_,fun b o e n hb hx=>?_,I.base.free,fun b o e hx=>?_,I.base.tups,I.base.wZ,I.base.z8⟩,⟨_,hn',fun j y v' e1 e2 e3=>?_⟩,fun y c e=>?_,I.free,I.kW,fun p hp=>?_,tracked ⟨oL,hoL,I.free⟩ hs,by simpa using I.len⟩ ⟨_,hs,.inl rfl⟩
  ·exact(hs.2 b (fP (mF (cz e) I.ok.above))).trans (I.base.keep b o e n hb hx)
  ·obtain⟨sl,e1⟩:=I.base.slot b o e n hb hx;exact⟨sl,(hs.2 b (fP (mF (cz e) I.ok.above))).trans e1⟩
  ·obtain⟨o',e1⟩:=I.base.there b o e hx;exact⟨o',(hs.2 b (fP (mF (cz e) I.ok.above))).trans e1⟩
  ·by_cases hj:j=i
   ·subst hj;rw[hi] at e1; cases e1;rw[List.getElem?_set_self hiσ] at e2;cases e2;exact⟨u,r,.inl ⟨hk,by simp⟩⟩
   ·rw[List.getElem?_set_ne (Ne.symm hj)] at e2;obtain⟨u',r',q⟩:=hl j y v' e1 e2 e3;refine⟨u',r',?_⟩;rcases q with⟨k,e⟩ | ⟨k,c,e,z⟩
    ·refine .inl ⟨k,?_⟩;have:y≠x:=fun e=>hj (Ej hN e1 (e▸hi));simp[this,e]
    ·exact .inr ⟨k,c,e,z.sameBut hs (Xq y c e)⟩
  ·obtain⟨w',z⟩:=I.cell y c e;exact⟨w',z.sameBut hs (Xq y c e)⟩
  ·obtain⟨e,n,ne,nf,d⟩:=I.pin p hp;exact⟨(hs.2 p.1 ne).trans e,n,ne,nf,d⟩
 ·have hfn:X.fn x=true:=by
   rcases hf with z | z
   ·exact z
   ·rw[z] at hk; cases hk
  obtain⟨c,hc⟩:=I.ok.has x (.inl hk);obtain⟨w',z⟩:=I.cell x c hc;refine wpAny_storeName_cell I.ok.kind hk hc z (fun h' hc' hs=>?_);obtain⟨oc,hoc,ac8⟩:=id z;refine h { s with heap:=h' } ⟨I.ok,I.os,I.bare,⟨fun b o e n hb hx=>?_,fun b o e n hb hx=>?_,I.base.free,fun b o e hx=>?_,I.base.tups,I.base.wZ,I.base.z8⟩,⟨m,hn.sameBut hs (Ne.symm (Xq x c hc)),fun j y v' e1 e2 e3=>?_⟩,fun y c' e=>?_,I.free,I.kW,fun p hp=>?_,tracked ⟨oc,hoc,I.kW x c hc⟩ hs,by simpa using I.len⟩ ⟨c,hs,.inr hc⟩
  ·exact(hs.2 b (fP (mF (cz e) (I.ok.cab x c hfn hc)))).trans (I.base.keep b o e n hb hx)
  ·obtain⟨sl,e1⟩:=I.base.slot b o e n hb hx;exact⟨sl,(hs.2 b (fP (mF (cz e) (I.ok.cab x c hfn hc)))).trans e1⟩
  ·obtain⟨o',e1⟩:=I.base.there b o e hx;exact⟨o',(hs.2 b (fP (mF (cz e) (I.ok.cab x c hfn hc)))).trans e1⟩
  ·by_cases hj:j=i
   ·subst hj;rw[hi] at e1; cases e1;rw[List.getElem?_set_self hiσ] at e2;cases e2;exact⟨u,r,.inr ⟨.inl hk,c,hc,hc'⟩⟩
   ·rw[List.getElem?_set_ne (Ne.symm hj)] at e2;obtain⟨u',r',q⟩:=hl j y v' e1 e2 e3;refine⟨u',r',?_⟩;rcases q with q | ⟨k,c',e,z'⟩
    ·exact .inl q
    ·refine .inr ⟨k,c',e,z'.sameBut hs ?_⟩;rintro rfl;exact hj (Ej hN e1 (I.ok.inj _ _ _ e hc▸hi))
  ·by_cases hcc:c'=c
   ·subst hcc; exact⟨_,hc'⟩
   ·obtain⟨w2,z2⟩:=I.cell y c' e;exact⟨w2,z2.sameBut hs hcc⟩
  ·obtain⟨e,n,ne,nf,d⟩:=I.pin p hp;refine⟨(hs.2 p.1 ?_).trans e,n,ne,nf,d⟩;intro q;rw[q,hoc] at e;have q':oc=p.2:=Option.some.inj e;exact d w' (by rw[<- q']; exact ac8)
theorem iy {M:Model} {A:Around} {E:Value->Shared->Prop} {i:Nat} {x:Str} {v:V} {u:Value} {Q:Unit->Shared->Prop} (I:Inv X pins σ H s) (hN:X.N.Nodup) (hi:X.N[i]?=some x) (hx:Loc X.env.scope x) (r:RelV v u)
  (h:∀s',Inv X pins (σ.set i (some v)) H s'->Q () s') (hf:X.fn x=true\/X.env.scope.names.lookup x=some .local:=by first | exact .inl rfl | exact .inr rfl | assumption):wpAny M A (storeName X.env x u) Q E s:=
 Ku I hN hi hx r (fun s' I' _=>h s' I') hf
theorem Inv.call' {s':Shared} {ch:List Addr} (I:Inv X pins σ H s) (ho:s'.os=s.os) (u:Un (frs X.stack) ch H H' s.heap s'.heap) (hok:nY X.prog X.w H' s'.heap) (hg:AllBare s'.gens)
  (hch:∀b∈ch,(b∈X.ex\/X.s₀.heap.objs.size<=b)/\b≠X.env.locals/\(∀x c,X.env.cells.lookup x=some c->c≠b)/\∀p∈X.pn++pins,p.1≠b):Inv X pins σ H' s':=by
 obtain⟨h',g',d',t',o'⟩:=s';have e:o'=s.os:=ho;subst e;exact I.call (g':=g') (t':=t') (d':=d') u hok hg hch
end
abbrev XK:=Value->Option Addr->Hp->Prop
abbrev St:=List (Option V)
abbrev VK:=V->Hp->Prop
abbrev TE:=St->Hp->VK->Prop
abbrev TT:=St->Hp->(Bool->Hp->Prop)->Prop
abbrev TA:=St->Hp->(List V->Hp->Prop)->Prop
structure Ends where
 nx:St->Hp->Prop
 rt:VK
 bk:St->Hp->Prop:=fun _ _=>False
 ct:St->Hp->Prop:=fun _ _=>False
abbrev TS:=Ends->St->Hp->Prop
def EP (X:Cx) (pins:List (Addr×Obj)) (σ:St) (Q:VK) (u:Value) (s':Shared):Prop:=∃v H',Inv X pins σ H' s'/\RelV v u/\Q v H'
def TP (X:Cx) (pins:List (Addr×Obj)) (σ:St) (Q:Bool->Hp->Prop) (b:Bool) (s':Shared):Prop:=∃H',Inv X pins σ H' s'/\Q b H'
def AP (X:Cx) (pins:List (Addr×Obj)) (σ:St) (Q:List V->Hp->Prop) (us:List Value) (s':Shared):Prop:=∃vs H',Inv X pins σ H' s'/\Vals vs us/\Q vs H'
def SP (X:Cx) (pins:List (Addr×Obj)) (D:Ends) (f:Flow) (s':Shared):Prop:=
 match f with
 | .next=>∃σ' H',Inv X pins σ' H' s'/\D.nx σ' H'
 | .brk=>∃σ' H',Inv X pins σ' H' s'/\D.bk σ' H'
 | .cont=>∃σ' H',Inv X pins σ' H' s'/\D.ct σ' H'
 | .ret u=>∃v σ' H',Inv X pins σ' H' s'/\RelV v u/\D.rt v H'
structure PE (X:Cx) (e:Expr) (t:TE):Prop where
 mk ::
 go :
 ∀(pins:List (Addr×Obj)) (s:Shared) (σ:St) (H:Hp) (Q:VK),Inv X pins σ H s->t σ H Q->wpAny (model X.prog X.w) X.A (eval e X.env) (EP X pins σ Q) X.xe s
instance {X:Cx} {e:Expr} {t:TE}:CoeFun (PE X e t) (fun _=>
 ∀(pins:List (Addr×Obj)) (s:Shared) (σ:St) (H:Hp) (Q:VK),Inv X pins σ H s->t σ H Q->wpAny (model X.prog X.w) X.A (eval e X.env) (EP X pins σ Q) X.xe s):=⟨PE.go⟩
structure PT (X:Cx) (e:Expr) (t:TT):Prop where
 mk ::
 go :
 ∀(pins:List (Addr×Obj)) (s:Shared) (σ:St) (H:Hp) (Q:Bool->Hp->Prop),Inv X pins σ H s->t σ H Q->wpAny (model X.prog X.w) X.A (isTrue e X.env (eval e X.env)) (TP X pins σ Q) X.xe s
instance {X:Cx} {e:Expr} {t:TT}:CoeFun (PT X e t) (fun _=>
 ∀(pins:List (Addr×Obj)) (s:Shared) (σ:St) (H:Hp) (Q:Bool->Hp->Prop),Inv X pins σ H s->t σ H Q->wpAny (model X.prog X.w) X.A (isTrue e X.env (eval e X.env)) (TP X pins σ Q) X.xe s):=⟨PT.go⟩
structure PW (X:Cx) (e:Expr) (t:TT):Prop where
 mk ::
 go :
 ∀(whole:Sem Value) (pins:List (Addr×Obj)) (s:Shared) (σ:St) (H:Hp) (Q:Bool->Hp->Prop),Inv X pins σ H s->t σ H Q->wpAny (model X.prog X.w) X.A (isTrue e X.env whole) (TP X pins σ Q) X.xe s
instance {X:Cx} {e:Expr} {t:TT}:CoeFun (PW X e t) (fun _=>
 ∀(whole:Sem Value) (pins:List (Addr×Obj)) (s:Shared) (σ:St) (H:Hp) (Q:Bool->Hp->Prop),Inv X pins σ H s->t σ H Q->wpAny (model X.prog X.w) X.A (isTrue e X.env whole) (TP X pins σ Q) X.xe s):=⟨PW.go⟩
theorem PW.pt {X:Cx} {e:Expr} {t:TT} (h:PW X e t):PT X e t:=.mk <| h _
structure PA (X:Cx) (es:List Expr) (t:TA):Prop where
 mk ::
 go :
 ∀(pos:Pos) (pins:List (Addr×Obj)) (s:Shared) (σ:St) (H:Hp) (Q:List V->Hp->Prop),Inv X pins σ H s->t σ H Q->wpAny (model X.prog X.w) X.A (spliced (backTo pos (starEach es X.env))) (AP X pins σ Q) X.xe s
instance {X:Cx} {es:List Expr} {t:TA}:CoeFun (PA X es t) (fun _=>
 ∀(pos:Pos) (pins:List (Addr×Obj)) (s:Shared) (σ:St) (H:Hp) (Q:List V->Hp->Prop),Inv X pins σ H s->t σ H Q->wpAny (model X.prog X.w) X.A (spliced (backTo pos (starEach es X.env))) (AP X pins σ Q) X.xe s):=⟨PA.go⟩
structure PS (X:Cx) (st:Stmt) (t:TS):Prop where
 mk ::
 go :
 ∀(pins:List (Addr×Obj)) (s:Shared) (σ:St) (H:Hp) (D:Ends),Inv X pins σ H s->t D σ H->wpAny (model X.prog X.w) X.A (exec st X.env) (SP X pins D) X.xe s
instance {X:Cx} {st:Stmt} {t:TS}:CoeFun (PS X st t) (fun _=>
 ∀(pins:List (Addr×Obj)) (s:Shared) (σ:St) (H:Hp) (D:Ends),Inv X pins σ H s->t D σ H->wpAny (model X.prog X.w) X.A (exec st X.env) (SP X pins D) X.xe s):=⟨PS.go⟩
structure Fo (X:Cx) (st:List Stmt) (t:TS):Prop where
 mk ::
 go :
 ∀(pins:List (Addr×Obj)) (s:Shared) (σ:St) (H:Hp) (D:Ends),Inv X pins σ H s->t D σ H->wpAny (model X.prog X.w) X.A (execs st X.env) (SP X pins D) X.xe s
instance {X:Cx} {st:List Stmt} {t:TS}:CoeFun (Fo X st t) (fun _=>
 ∀(pins:List (Addr×Obj)) (s:Shared) (σ:St) (H:Hp) (D:Ends),Inv X pins σ H s->t D σ H->wpAny (model X.prog X.w) X.A (execs st X.env) (SP X pins D) X.xe s):=⟨Fo.go⟩
theorem cI {α:Type} {t:Sem α} {Q Q':α->Shared->Prop} {M:Model} {A:Around} {E:Value->Shared->Prop} {s:Shared} (h:wpAny M A t Q E s) (hQ:∀a s,Q a s->Q' a s):wpAny M A t Q' E s:=oU h hQ fun _ _ x=>x
section
variable {X:Cx}
def uw (i:Nat):TE:=fun σ H Q=>match σ[i]? with
 | some (some v)=>Q v H
 | _=>False
theorem uw.ex {i:Nat} {σ:St} {H:Hp} {Q:VK} (h:uw i σ H Q):∃v,σ[i]?=some (some v)/\Q v H:=by
 unfold uw at h;split at h
 ·rename_i v e;exact⟨v,e,h⟩
 ·exact h.elim
def tC (v:V):TE:=fun _ H Q=>Q v H
theorem We {i:Nat} {x:Str} {pos:Pos} (hN:X.N[i]?=some x) (hv:Vis X.env.scope x) (hd:(x==("__debug__" : Str))=false:=by decide) (hcd:(x==("__classdict__" : Str))=false:=by decide):PE X (.Name x pos) (uw i):=by
 refine .mk ?_;intro pins s σ H Q I h;obtain⟨v,e,h⟩:=uw.ex h;obtain⟨m,hn,hl⟩:=I.loc;obtain⟨u,r,l⟩:=hl i x v hN e hv;have fin:EP X pins σ Q u s:=⟨v,H,I,r,h⟩;rcases l with⟨hk,hm⟩ | ⟨hk,c,hc,hcell⟩
 ·exact wpAny_Name (wpAny_loadName_local I.ok.kind hk hn hm fin) hd
 ·rcases hk with hk | hk
  ·exact wpAny_Name (wpAny_loadName_cell I.ok.kind hk hc hcell fin) hd
  ·exact wpAny_Name (wpAny_loadName_free I.ok.kind hk hc hcell fin hcd) hd
theorem aA {i j pos}:PE X (.Constant (.int i) j pos) (tC (.int i)):=.mk <| fun _ _ _ H _ I h=>wpAny_Constant_int ⟨.int i,H,I.tok _,⟨_,rfl⟩,h⟩
theorem uh {b j pos}:PE X (.Constant (.bool b) j pos) (tC (.bl b)):=.mk <| fun _ _ _ H _ I h=>Constant_bool ⟨.bl b,H,I,rfl,h⟩
theorem iI {j pos}:PE X (.Constant .none j pos) (tC .non):=.mk <| fun _ _ _ H _ I h=>Constant_none ⟨.non,H,I,rfl,h⟩
theorem iH {x j pos}:PE X (.Constant (.str x) j pos) (tC (.str x)):=.mk <| fun _ _ _ H _ I h=>Calls.Constant_str ⟨.str x,H,I.tok _,⟨_,rfl⟩,h⟩
def Gl (X:Cx) (x:Str):Prop:=X.env.kindOf x=some .globalImplicit
theorem Bp {E:Value->Shared->Prop} {pins:List (Addr×Obj)} {s:Shared} {σ:St} {H:Hp} {x:Str} {u:Value} {pos:Pos} {Q:Value->Shared->Prop} (I:Inv X pins σ H s) (hg:Gl X x) (hm:X.mg x=some u) (h:Q u s)
  (hd:(x==("__debug__" : Str))=false:=by decide):wpAny (model X.prog X.w) X.A (eval (.Name x pos) X.env) Q E s:=
 Calls.Name_function_global I.ok.kind hg (Calls.loadGlobal_global (by rw[I.ok.glob]; exact I.mod.glob.keeps I.bk) hm h) hd
theorem iJ {E:Value->Shared->Prop} {pins:List (Addr×Obj)} {s:Shared} {σ:St} {H:Hp} {x:Str} {u:Value} {pos:Pos} {Q:Value->Shared->Prop} (I:Inv X pins σ H s) (hg:Gl X x) (hm:X.mg x=none) (hv:bootBuiltins x=some u) (h:Q u s)
  (hn:x ≠ "__name__" := by decide) (hd:(x==("__debug__" : Str))=false:=by decide):wpAny (model X.prog X.w) X.A (eval (.Name x pos) X.env) Q E s:=by
 obtain⟨mb,h1,h2⟩:=I.mod.blt;exact Calls.Name_function_global I.ok.kind hg (Calls.loadGlobal_builtin (by rw[I.ok.glob]; exact I.mod.glob.keeps I.bk) hm (by rw[I.ok.blt]; exact h1.keeps I.bk) ((h2 x hn).trans hv) h) hd
theorem Av {x:Str} {v:V} {u:Value} {pos:Pos} (hg:Gl X x) (hm:X.mg x=some u) (r:RelV v u) (hd:(x==("__debug__" : Str))=false:=by decide):PE X (.Name x pos) (tC v):=
 .mk <| fun _ _ _ H _ I h=>Bp I hg hm ⟨v,H,I,r,h⟩ hd
theorem R7 {x:Str} {v:V} {u:Value} {pos:Pos} (hg:Gl X x) (hm:X.mg x=none) (hv:bootBuiltins x=some u) (r:RelV v u) (hn:x ≠ "__name__" := by decide) (hd:(x==("__debug__" : Str))=false:=by decide):PE X (.Name x pos) (tC v):=
 .mk <| fun _ _ _ H _ I h=>iJ I hg hm hv ⟨v,H,I,r,h⟩ hn hd
variable {a b:Expr} {ta tb:TE} {pos:Pos}
def tB (t:TE):TT:=fun σ H Q=>t σ H fun x H1=>∃c,x=.bl c/\Q c H1
theorem fQ {e:Expr} {t:TE} (h:PE X e t) (he:∀whole,isTrue e X.env whole=(do let v <- whole; standAt e.pos; holding [v] (truthy v)):=by intro _; rfl):PT X e (tB t):=by
 refine .mk ?_;intro pins s σ H Q I hw;refine isTrue_plain (cI (h pins s σ H _ I hw) fun v s1 ⟨x,H1,I1,r1,q1⟩=>?_) (he _);obtain⟨d,rfl,q⟩:=q1;cases r1;exact Dn ⟨H1,I1,q⟩
variable {tA tB':TT} {rest:List Expr}
def Zd (t u:TT):TT:=fun σ H Q=>t σ H fun c H1=>if c=true then u σ H1 Q else Q false H1
def tOr (t u:TT):TT:=fun σ H Q=>t σ H fun c H1=>if c=true then Q true H1 else u σ H1 Q
def Y9 (t:TT):TT:=fun σ H Q=>t σ H fun c H1=>Q (!c) H1
theorem Ak (ha:PT X a tA):PW X (.BoolOp .And [a] pos) tA:=by
 refine .mk ?_;intro wh pins s σ H Q I h;refine isTrue_and (cI (ha pins s σ H Q I h) fun c s1 e=>?_);cases c with
 | true=>exact isTrue_and_nil e
 | false=>exact e
theorem nA (ha:PT X a tA):PW X (.BoolOp .Or [a] pos) tA:=by
 refine .mk ?_;intro wh pins s σ H Q I h;refine isTrue_or (cI (ha pins s σ H Q I h) fun c s1 e=>?_);cases c with
 | false=>exact isTrue_or_nil e
 | true=>exact e
theorem GP (ha:PT X a tA) (hb:PW X (.BoolOp .And (b::rest) pos) tB'):PW X (.BoolOp .And (a::b::rest) pos) (Zd tA tB'):=by
 refine .mk ?_;intro wh pins s σ H Q I h;refine isTrue_and (cI (ha pins s σ H _ I h) fun c s1 qx=>?_);obtain⟨H1,I1,q1⟩:=qx;cases c with
 | true=>exact hb wh pins s1 σ H1 Q I1 q1
 | false=>exact⟨H1,I1,q1⟩
theorem ug (ha:PT X a tA) (hb:PW X (.BoolOp .Or (b::rest) pos) tB'):PW X (.BoolOp .Or (a::b::rest) pos) (tOr tA tB'):=by
 refine .mk ?_;intro wh pins s σ H Q I h;refine isTrue_or (cI (ha pins s σ H _ I h) fun c s1 qx=>?_);obtain⟨H1,I1,q1⟩:=qx;cases c with
 | true=>exact⟨H1,I1,q1⟩
 | false=>exact hb wh pins s1 σ H1 Q I1 q1
theorem nC (ha:PT X a tA):PT X (.UnaryOp .Not a pos) (Y9 tA):=by
 refine .mk ?_;intro pins s σ H Q I h;exact isTrue_not (ha pins s σ H (fun c H1=>Q (!c) H1) I h)
def Uo (ta tb:TE):TE:=fun σ H Q=>ta σ H fun x H1=>∃c,x=.bl c/\if c=true then tb σ H1 Q else Q (.bl false) H1
def ab9 (ta tb:TE):TE:=fun σ H Q=>ta σ H fun x H1=>∃c,x=.bl c/\if c=true then Q (.bl true) H1 else tb σ H1 Q
def Uh (ta:TE):TE:=fun σ H Q=>ta σ H fun x H1=>∃c,x=.bl c/\Q (.bl (!c)) H1
theorem GZ {op} {t:TE} (h:PE X a t):PE X (.BoolOp op [a] pos) t:=.mk <| fun pins s σ H Q I hw=>BoolOp_one (h pins s σ H Q I hw)
theorem wu (ha:PE X a ta) (hb:PE X (.BoolOp .And (b::rest) pos) tb):PE X (.BoolOp .And (a::b::rest) pos) (Uo ta tb):=by
 refine .mk ?_;intro pins s σ H Q I h;refine BoolOp_and (cI (ha pins s σ H _ I h) fun v s1 qx=>?_);obtain⟨x,H1,I1,r1,q1⟩:=qx;obtain⟨c,rfl,q1⟩:=q1;cases r1;refine Dn ?_;cases c with
 | true=>exact hb pins s1 σ H1 Q I1 q1
 | false=>exact⟨.bl false,H1,I1,rfl,q1⟩
theorem Wf (ha:PE X a ta):PE X (.UnaryOp .Not a pos) (Uh ta):=by
 refine .mk ?_;intro pins s σ H Q I h;refine UnaryOp_ (cI (ha pins s σ H _ I h) fun v s1 qx=>?_);obtain⟨x,H1,I1,r1,q1⟩:=qx;obtain⟨c,rfl,q1⟩:=q1;cases r1;exact not_of (Dn ⟨.bl (!c),H1,I1,rfl,q1⟩)
def tIf (t:TT) (ta tb:TE):TE:=fun σ H Q=>t σ H fun c H1=>if c=true then ta σ H1 Q else tb σ H1 Q
theorem d_ {c:Expr} (hc:PT X c tA) (ha:PE X a ta) (hb:PE X b tb):PE X (.IfExp c a b pos) (tIf tA ta tb):=by
 refine .mk ?_;intro pins s σ H Q I h;refine wpAny_IfExp (cI (hc pins s σ H _ I h) fun d s1 qx=>?_);obtain⟨H1,I1,q1⟩:=qx;cases d with
 | true=>exact ha pins s1 σ H1 Q I1 q1
 | false=>exact hb pins s1 σ H1 Q I1 q1
end
def cg (K:PySem.W.Frag) (H:Hp) (a:Addr) (xs:List V):Prop:=
 Rd H a (.lst xs) \/
  ∃(o:Obj) (its:Array Value) (n:Nat),K.lookup a=some o/\o.cls=.type "list" /\ o.dict=none/\o.data=.seq its n/\its.size<=sizeLine/\Vals xs its.toList
def e_ (K:PySem.W.Frag) (H:Hp) (a:Addr) (xs:List V):Prop:=
 Rd H a (.tup xs) \/
  ∃(o:Obj) (its:Array Value) (n:Nat),K.lookup a=some o/\o.cls=.type "tuple" /\ o.data=.seq its n/\its.size<=sizeLine/\Vals xs its.toList
def ad2:Value->Option V
 | .none=>some .non
 | .bool b=>some (.bl b)
 | .int i _=>some (.int i)
 | .str x _=>some (.str x)
 | .bytes b _=>some (.Mp b)
 | .float b _=>some (.flt b)
 | .ref a=>some (.ref a)
 | .type n=>some (.ty n)
 | _=>none
theorem RelV.abs {x:V} {u:Value} (r:RelV x u):ad2 u=some x:=by
 cases x with
 | non=>cases r; rfl
 | bl _=>cases r; rfl
 | int _=>obtain⟨t,rfl⟩:=r; rfl
 | str _=>obtain⟨t,rfl⟩:=r; rfl
 | Mp _=>obtain⟨t,rfl⟩:=r; rfl
 | flt _=>obtain⟨t,rfl⟩:=r; rfl
 | ref _=>cases r; rfl
 | ty _=>cases r; rfl
theorem RelV.inj {x y:V} {u:Value} (r:RelV x u) (q:RelV y u):x=y:=Option.some.inj (r.abs.symm.trans q.abs)
theorem Vals.inj:∀{xs ys:List V} {us:List Value},Vals xs us->Vals ys us->xs=ys
 | _,_,_,.nil,.nil=>rfl
 | _,_,_,.cons r t,.cons r' t'=>by rw[r.inj r',Vals.inj t t']
section
variable {X:Cx} {pins:List (Addr×Obj)} {σ:St} {H:Hp} {s:Shared} {a:Addr} {xs ys:List V}
theorem cg.of {K:PySem.W.Frag} (h:H a=some (.lst xs)):cg K H a xs:=.inl (.inl h)
theorem e_.of {K:PySem.W.Frag} (h:H a=some (.tup xs)):e_ K H a xs:=.inl (.inl h)
theorem Inv.list (I:Inv X pins σ H s) (h:cg X.K H a xs):∃its:List Value,Vals xs its/\PlainL s.heap a its.toArray/\xs.length<=sizeLine:=by
 rcases h with h | ⟨o,its,n,hk,hc,hd,hs,hz,r⟩
 ·obtain⟨z,its,n,r,e⟩:=h.ok I.hok;exact⟨its,r,⟨_,n,e,rfl,rfl,rfl⟩,z⟩
 ·refine⟨its.toList,r,⟨o,n,I.mH a o hk,hc,hd,by simpa using hs⟩,?_⟩
  have e:=r.length;simp only[Array.length_toList] at e;omega
theorem Inv.tuple (I:Inv X pins σ H s) (h:e_ X.K H a xs):∃its:List Value,Vals xs its/\IsTup s.heap a its.toArray/\xs.length<=sizeLine:=by
 rcases h with h | ⟨o,its,n,hk,hc,hs,hz,r⟩
 ·obtain⟨z,its,r,p⟩:=h.ok I.hok;exact⟨its,r,p,z⟩
 ·refine⟨its.toList,r,⟨o,I.mH a o hk,hc,n,by simpa using hs⟩,?_⟩
  have e:=r.length;simp only[Array.length_toList] at e;omega
theorem Inv.wQ (I:Inv X pins σ H s) (h:cg X.K H a xs) (h':cg X.K H a ys):xs=ys:=by
 obtain⟨its,r,⟨o,n,e,_,_,d⟩,_⟩:=I.list h;obtain⟨its',r',⟨o',n',e',_,_,d'⟩,_⟩:=I.list h';rw[e] at e'; cases e';rw[d] at d';injection d' with d1 _
 have:its=its':=by simpa using nq Array.toList d1
 subst this;exact r.inj r'
theorem Inv.yH (I:Inv X pins σ H s) (h:e_ X.K H a xs) (h':e_ X.K H a ys):xs=ys:=by
 obtain⟨its,r,⟨o,e,_,n,d⟩,_⟩:=I.tuple h;obtain⟨its',r',⟨o',e',_,n',d'⟩,_⟩:=I.tuple h';rw[e] at e'; cases e';rw[d] at d';injection d' with d1 _
 have:its=its':=by simpa using nq Array.toList d1
 subst this;exact r.inj r'
end
abbrev Cx.wish (X:Cx) (E:Value->Shared->Prop):Cx:={ X with xe:=E }
abbrev Cx.X5 (X:Cx):Cx:=X.wish fun _ _=>False
theorem Cx.Ok.wish {X:Cx} (ok:X.Ok) (E:Value->Shared->Prop):(X.wish E).Ok:=
 ⟨ok.mod,ok.kind,ok.glob,ok.blt,ok.above,ok.inj,ok.has,ok.cab,ok.hd,ok.frames,ok.stk,ok.exf,ok.bs,ok.My,ok.Hg,ok.Ma,ok.uK,ok.Xf⟩
theorem Cx.Ok.mK {X:Cx} {E:Value->Shared->Prop} (ok:(X.wish E).Ok):X.Ok:=
 ⟨ok.mod,ok.kind,ok.glob,ok.blt,ok.above,ok.inj,ok.has,ok.cab,ok.hd,ok.frames,ok.stk,ok.exf,ok.bs,ok.My,ok.Hg,ok.Ma,ok.uK,ok.Xf⟩
section
variable {X:Cx} {pins:List (Addr×Obj)} {σ:St} {H:Hp} {s:Shared} {E:Value->Shared->Prop}
theorem Inv.wish (I:Inv X pins σ H s) (E:Value->Shared->Prop):Inv (X.wish E) pins σ H s:=⟨I.ok.wish E,I.os,I.bare,I.base,I.loc,I.cell,I.free,I.kW,I.pin,I.hok,I.len⟩
theorem Inv.mK (I:Inv (X.wish E) pins σ H s):Inv X pins σ H s:=⟨I.ok.mK,I.os,I.bare,I.base,I.loc,I.cell,I.free,I.kW,I.pin,I.hok,I.len⟩
theorem SP.mK {D:Ends} {f:Flow} {s':Shared} (h:SP (X.wish E) pins D f s'):SP X pins D f s':=by
 cases f with
 | next=>obtain⟨σ',H',I,q⟩:=h; exact⟨σ',H',I.mK,q⟩
 | brk=>obtain⟨σ',H',I,q⟩:=h; exact⟨σ',H',I.mK,q⟩
 | cont=>obtain⟨σ',H',I,q⟩:=h; exact⟨σ',H',I.mK,q⟩
 | ret u=>obtain⟨v,σ',H',I,r,q⟩:=h; exact⟨v,σ',H',I.mK,r,q⟩
theorem Fo.X5 {st:List Stmt} {t:TS} (h:Fo X.X5 st t):Fo X st t:=.mk <| fun pins s σ H D I hw=>
 oU (h pins s σ H D (I.wish _) hw) (fun _ _ q=>q.mK) fun _ _ z=>False.elim z
end
section
variable {X:Cx} {st:Stmt} {rest:List Stmt} {t u:TS} {e:Expr} {te:TE} {pos:Pos}
def Ui:TS:=fun D σ H=>D.nx σ H
def Ko (t u:TS):TS:=fun D σ H=>t { D with nx:=u D } σ H
theorem bM:Fo X [] Ui:=.mk <| fun _ _ σ H _ I h=>wpAny_execs_nil ⟨σ,H,I,h⟩
theorem aq (h1:PS X st t) (h2:Fo X rest u):Fo X (st::rest) (Ko t u):=by
 refine .mk ?_;intro pins s σ H D I h;refine wpAny_execs_cons (cI (h1 pins s σ H { D with nx:=u D } I h) fun f s1 q=>?_)
 cases f with
 | next=>
  obtain⟨σ',H',I',q⟩:=q;exact h2 pins s1 σ' H' D I' q
 | ret v=>exact q
 | brk=>exact q
 | cont=>exact q
theorem aH (h1:PS X st t):Fo X [st] t:=by
 refine .mk ?_;intro pins s σ H D I h;refine wpAny_execs_cons (cI (h1 pins s σ H D I h) fun f s1 q=>?_);cases f with
 | next=>exact wpAny_execs_nil q
 | ret v=>exact q
 | brk=>exact q
 | cont=>exact q
theorem Inv.quiet {pins:List (Addr×Obj)} {σ:St} {H:Hp} {s:Shared} (I:Inv X pins σ H s):interactive X.env=false:=by simp[interactive,I.ok.kind]
def Ul (te:TE):TS:=fun D σ H=>te σ H fun _ H1=>D.nx σ H1
theorem bO (he:PE X e te) (hs:swapsWith e none pos.line X.env=pure false:=by rfl):PS X (.Expr e pos) (Ul te):=by
 refine .mk ?_;intro pins s σ H D I h;exact wpAny_Expr_any (cI (he pins s σ H _ I h) fun v s1 ⟨x,H1,I1,r1,q1⟩=>⟨σ,H1,I1,q1⟩) I.quiet hs
def Y4 (te:TE):TS:=fun D σ H=>te σ H D.rt
theorem a_ (he:PE X e te):PS X (.Return (some e) pos) (Y4 te):=by
 refine .mk ?_;intro pins s σ H D I h;exact wpAny_Return_some (cI (he pins s σ H _ I h) fun v s1 ⟨x,H1,I1,r1,q1⟩=>⟨x,σ,H1,I1,r1,q1⟩)
def Y0:TS:=fun D _ H=>D.rt .non H
def Rm (c:TT) (t u:TS):TS:=fun D σ H=>c σ H fun b H1=>if b=true then t D σ H1 else u D σ H1
theorem cP {c:Expr} {a b:List Stmt} {tc:TT} (hc:PT X c tc) (ha:Fo X a t) (hb:Fo X b u):PS X (.If c a b pos) (Rm tc t u):=by
 refine .mk ?_;intro pins s σ H D I h;refine wpAny_If (cI (hc pins s σ H _ I h) fun d s1 qx=>?_);obtain⟨H1,I1,q1⟩:=qx;cases d with
 | true=>exact ha pins s1 σ H1 D I1 q1
 | false=>exact hb pins s1 σ H1 D I1 q1
end
abbrev TG:=V->St->Hp->(St->Hp->Prop)->Prop
abbrev QD:=List V->St->Hp->(St->Hp->Prop)->Prop
structure PG (X:Cx) (target:Expr) (t:TG):Prop where
 mk ::
 go :
 ∀(pins:List (Addr×Obj)) (s:Shared) (σ:St) (H:Hp) (v:V) (u:Value) (Q:St->Hp->Prop),Inv X pins σ H s->RelV v u->t v σ H Q ->
  wpAny (model X.prog X.w) X.A (assign target X.env u) (fun _ s'=>∃σ' H',Inv X pins σ' H' s'/\Q σ' H') X.xe s
instance {X:Cx} {target:Expr} {t:TG}:CoeFun (PG X target t) (fun _=>
 ∀(pins:List (Addr×Obj)) (s:Shared) (σ:St) (H:Hp) (v:V) (u:Value) (Q:St->Hp->Prop),Inv X pins σ H s->RelV v u->t v σ H Q ->
  wpAny (model X.prog X.w) X.A (assign target X.env u) (fun _ s'=>∃σ' H',Inv X pins σ' H' s'/\Q σ' H') X.xe s):=⟨PG.go⟩
structure XF (X:Cx) (ts:List Expr) (t:QD):Prop where
 mk ::
 go :
 ∀(pins:List (Addr×Obj)) (s:Shared) (σ:St) (H:Hp) (vs:List V) (us:List Value) (Q:St->Hp->Prop),Inv X pins σ H s->Vals vs us->t vs σ H Q ->
  wpAny (model X.prog X.w) X.A (assignInOrder ((assignEach ts X.env).map (·.2)) us) (fun _ s'=>∃σ' H',Inv X pins σ' H' s'/\Q σ' H') X.xe s
instance {X:Cx} {ts:List Expr} {t:QD}:CoeFun (XF X ts t) (fun _=>
 ∀(pins:List (Addr×Obj)) (s:Shared) (σ:St) (H:Hp) (vs:List V) (us:List Value) (Q:St->Hp->Prop),Inv X pins σ H s->Vals vs us->t vs σ H Q ->
  wpAny (model X.prog X.w) X.A (assignInOrder ((assignEach ts X.env).map (·.2)) us) (fun _ s'=>∃σ' H',Inv X pins σ' H' s'/\Q σ' H') X.xe s):=⟨XF.go⟩
abbrev Ms:=V->V->V->Hp->(Hp->Prop)->Prop
structure Mu (X:Cx) (t:Ms):Prop where
 mk ::
 go :
 ∀(pins:List (Addr×Obj)) (s:Shared) (σ:St) (H:Hp) (o i v:V) (ov iv u:Value) (Q:Hp->Prop),Inv X pins σ H s->RelV o ov->RelV i iv->RelV v u->t o i v H Q ->
  wpAny (model X.prog X.w) X.A (setItem ov iv u) (fun _ s'=>∃H',Inv X pins σ H' s'/\Q H') X.xe s
instance {X:Cx} {t:Ms}:CoeFun (Mu X t) (fun _=>
 ∀(pins:List (Addr×Obj)) (s:Shared) (σ:St) (H:Hp) (o i v:V) (ov iv u:Value) (Q:Hp->Prop),Inv X pins σ H s->RelV o ov->RelV i iv->RelV v u->t o i v H Q ->
  wpAny (model X.prog X.w) X.A (setItem ov iv u) (fun _ s'=>∃H',Inv X pins σ H' s'/\Q H') X.xe s):=⟨Mu.go⟩
abbrev Yk:=V->V->Hp->VK->Prop
def PIp (X:Cx) (op:Operator) (t:Yk):Prop:=
 ∀(pins:List (Addr×Obj)) (s:Shared) (σ:St) (H:Hp) (x y:V) (v u:Value) (Q:VK),Inv X pins σ H s->RelV x v->RelV y u->t x y H Q ->
  wpAny (model X.prog X.w) X.A (inplaceOp op v u) (EP X pins σ Q) X.xe s
section
variable {X:Cx} {pos:Pos}
def fK (i:Nat):TG:=fun v σ H Q=>Q (σ.set i (some v)) H
theorem aJ {i:Nat} {x:Str} (hN:X.N.Nodup) (hi:X.N[i]?=some x) (hx:Loc X.env.scope x) (hf:X.fn x=true\/X.env.scope.names.lookup x=some .local:=by first | exact .inl rfl | exact .inr rfl | assumption):PG X (.Name x pos) (fK i):=by
 refine .mk ?_;intro pins s σ H v u Q I r h;exact wpAny_assign_Name (iy I hN hi hx r (fun s' I'=>⟨_,H,I',h⟩) hf)
def Bw:QD:=fun vs σ H Q=>match vs with
 | []=>Q σ H
 | _=>False
theorem Bw.ex {vs:List V} {σ:St} {H:Hp} {Q:St->Hp->Prop} (h:Bw vs σ H Q):vs=[]/\Q σ H:=by
 cases vs with
 | nil=>exact⟨rfl,h⟩
 | cons a b=>exact h.elim
def jN (t:TG) (u:QD):QD:=fun vs σ H Q=>match vs with
 | v::r=>t v σ H fun σ' H'=>u r σ' H' Q
 | []=>False
theorem jN.ex {t:TG} {u:QD} {vs:List V} {σ:St} {H:Hp} {Q:St->Hp->Prop} (h:jN t u vs σ H Q):∃v r,vs=v::r/\t v σ H fun σ' H'=>u r σ' H' Q:=by
 cases vs with
 | nil=>exact h.elim
 | cons a b=>exact⟨a,b,rfl,h⟩
theorem bT:XF X [] Bw:=by
 refine .mk ?_;intro pins s σ H vs us Q I r h;obtain⟨e,h⟩:=Bw.ex h;subst e;cases r;exact assignInOrder_nil ⟨σ,H,I,h⟩
theorem aK {e:Expr} {es:List Expr} {t:TG} {u:QD} (h1:PG X e t) (h2:XF X es u)
  (hs:(assignEach (e::es) X.env).map (·.2)=assign e X.env::(assignEach es X.env).map (·.2):=by rfl):XF X (e::es) (jN t u):=by
 refine .mk ?_;intro pins s σ H vs us Q I r h;obtain⟨v,vr,e1,h⟩:=jN.ex h;subst e1;cases r with
 | cons r rr=>
  rw[hs];refine assignInOrder_cons (cI (h1 pins s σ H _ _ _ I r h) fun _ s1 qx=>?_);obtain⟨σ1,H1,I1,q1⟩:=qx;exact h2 pins s1 σ1 H1 _ _ Q I1 rr q1
def LQ (K:PySem.W.Frag) (n:Nat) (t:QD):TG:=fun v σ H Q=>∃a xs,v=.ref a/\e_ K H a xs/\xs.length=n/\t xs σ H Q
theorem Wd {es:List Expr} {k:Nat} {t:QD} {n:Nat} (hc:X.calm=true) (h:XF X es t)
  (hn:(assignEach es X.env).length=n:=by rfl) (hst:(assignEach es X.env).findIdx? (·.1)=none:=by rfl):PG X (.Tuple es k pos) (LQ X.K n t):=by
 refine .mk ?_;intro pins s σ H v u Q I r hw;obtain⟨a,xs,e1,hq,hl,hw⟩:=hw;subst e1;cases r;obtain⟨its,rv,ht,hz⟩:=I.tuple hq;refine assign_Tuple_tuple (I.ok.hd hc) ht (by simp[hn,<- hl,rv.length]) hst fun h' hx=>?_
 have I1:Inv X pins σ H { s with heap:=h' }:=I.kept (t':=s.toks) fun b o e=>hx b o (fP (cz e)) e
 exact h pins _ σ H xs _ Q I1 (by simpa using rv) hw
def aao (to ti:TE) (t:Ms):TG:=fun v σ H Q=>to σ H fun o H1=>ti σ H1 fun i H2=>t o i v H2 fun H3=>Q σ H3
theorem p_ {o i:Expr} {to ti:TE} {t:Ms} (ho:PE X o to) (hi:PE X i ti) (hs:Mu X t)
  (ha:∀v,assign (.Subscript o i pos) X.env v=(do
   let ov <- holding [v] (eval o X.env)
   let iv <- holding [v,ov] (eval i X.env)
   standAt pos
   holding [v,ov,iv] (setItem ov iv v)
   release [v,ov,iv] []):=by intro _; rfl):PG X (.Subscript o i pos) (aao to ti t):=by
 refine .mk ?_;intro pins s σ H v u Q I r h;rw[ha];refine aW (oV (cI (ho pins s σ H _ I h) fun ov s1 qx=>?_));obtain⟨x,H1,I1,r1,q1⟩:=qx;refine aW (oV (cI (hi pins s1 σ H1 _ I1 q1) fun iv s2 qx=>?_));obtain⟨y,H2,I2,r2,q2⟩:=qx;refine aW (Ai (aW (oV (cI (hs pins s2 σ H2 x y v ov iv u _ I2 r1 r2 r q2) fun _ s3 qx=>?_))));obtain⟨H3,I3,q3⟩:=qx;exact wpAny_release ⟨σ,H3,I3,q3⟩
def z9 (te:TE) (g:TG):TS:=fun D σ H=>te σ H fun x H1=>g x σ H1 D.nx
theorem dX {tg e:Expr} {te:TE} {g:TG} (he:PE X e te) (hg:PG X tg g) (hs:swapsWithSole [tg] e pos.line X.env=pure false:=by rfl) (hw:swappedStores [tg] e X.env=pure none:=by rfl)
  (h1:(assignEach [tg] X.env).map (·.2)=[assign tg X.env]:=by rfl):PS X (.Assign [tg] e pos) (z9 te g):=by
 refine .mk ?_;intro pins s σ H D I h;refine wpAny_Assign_stores (cI (he pins s σ H _ I h) fun v s1 ⟨x,H1,I1,r1,q1⟩=>?_) hs hw;rw[h1];exact cI (hg pins s1 σ H1 x v _ I1 r1 q1) fun _ s2 q=>q
theorem aX {i:Nat} {x:Str} {e:Expr} {te:TE} {pos':Pos} (hN:X.N.Nodup) (hi:X.N[i]?=some x) (hx:Loc X.env.scope x) (he:PE X e te) (hs:swapsWith e (some (.Name x pos')) pos.line X.env=pure false:=by rfl) (hf:X.fn x=true\/X.env.scope.names.lookup x=some .local:=by first | exact .inl rfl | exact .inr rfl | assumption) :
  PS X (.Assign [.Name x pos'] e pos) (z9 te (fK i)):=by
 refine .mk ?_;intro pins s σ H D I h;refine wpAny_Assign_Name (cI (he pins s σ H _ I h) fun v s1 ⟨y,H1,I1,r1,q1⟩=>?_) hs;exact iy I1 hN hi hx r1 (fun s2 I2=>⟨_,H1,I2,q1⟩) hf
def Y8 (i j:Nat) (ta:TA):TS:=fun D σ H=>ta σ H fun vs H1=>∃v w,vs=[v,w]/\D.nx ((σ.set i (some v)).set j (some w)) H1
theorem nD {i j:Nat} {x y:Str} {a b:Expr} {ta:TA} {px py pt:Pos} {kt k2 V7} (hc:X.calm=true) (hN:X.N.Nodup) (hi:X.N[i]?=some x) (hj:X.N[j]?=some y) (hij:i≠j)
  (hx:X.env.scope.names.lookup x=some .local) (hy:X.env.scope.names.lookup y=some .local) (ha:PA X [a,b] ta)
  (hw:swappedStores [.Tuple [.Name x px,.Name y py] kt pt] (.Tuple [a,b] k2 V7) X.env=pure (some [x,y]))
  (hs:swapsWithSole [.Tuple [.Name x px,.Name y py] kt pt] (.Tuple [a,b] k2 V7) pos.line X.env=pure false:=by rfl) :
  PS X (.Assign [.Tuple [.Name x px,.Name y py] kt pt] (.Tuple [a,b] k2 V7) pos) (Y8 i j ta):=by
 refine .mk ?_;intro pins s σ H D I h;rw[exec_Assign_arm];refine aW (Ai ?_);rw[hs];refine aW (cF ?_);rw[aZ (by decide)]
 refine aW (Tuple_ (cI (ha _ pins s σ H _ I h) fun us s1 qx=>?_));obtain⟨vs,H1,I1,r1,q1⟩:=qx;obtain⟨v,w,e1,q1⟩:=q1;subst e1
 obtain⟨u1,u2,rfl,rv,Df⟩:∃u1 u2,us=[u1,u2]/\RelV v u1/\RelV w u2:=by
  cases r1 with
  | cons p q=>
   cases q with
   | cons p' q'=>
    cases q';exact⟨_,_,rfl,p,p'⟩
 refine ux ?_ (by show 2<=sizeLine; decide)
 have I2:Inv X pins σ H1 { s1 with heap:=s1.heap.push { cls:=.type "tuple",data:=.seq [u1,u2].toArray } }:=I1.kept (t':=s1.toks) fun b o e=>dW _ e
 rw[hw];refine aW (cF ?_);show wpAny (model X.prog X.w) X.A (do rule "assign.swapped-stores"; let items <- unpackItems (.ref s1.heap.objs.size) 2 none; assignInOrder [fun v=>bindName X.env y v,fun v=>bindName X.env x v] items.reverse; pure Flow.next) _ _ _
 refine aW (qU (aW (unpackItems_tuple (items:=#[u1,u2]) (I.ok.hd hc) (IsTup.new s1.heap _) fun h' hx'=>?_)));have I3:=I2.kept (h':=h') (t':=s1.toks) fun b o e=>hx' b o (fP (cz e)) e;show wpAny _ _ (assignInOrder [fun v=>bindName X.env y v,fun v=>bindName X.env x v] [u2,u1] >>= fun _=>pure Flow.next) _ _ _;refine aW (assignInOrder_cons (Dz (iy I3 hN hj (.inl hy) Df (fun s2 I4=>?_) (.inr hy))));refine assignInOrder_cons (Dz (iy I4 hN hi (.inl hx) rv (fun s3 I5=>assignInOrder_nil (cF ?_)) (.inr hx)));rw[List.set_comm _ _ (Ne.symm hij)] at I5;exact⟨_,H1,I5,q1⟩
def Zc (i:Nat) (te:TE) (ti:Yk):TS:=fun D σ H=>∃x,σ[i]?=some (some x)/\te σ H fun y H1=>ti x y H1 fun z H2=>D.nx (σ.set i (some z)) H2
theorem Am {i:Nat} {x:Str} {e:Expr} {te:TE} {op:Operator} {ti:Yk} {pos':Pos} (hN:X.N.Nodup) (hi:X.N[i]?=some x) (hx:Loc X.env.scope x) (he:PE X e te) (ho:PIp X op ti) (hf:X.fn x=true\/X.env.scope.names.lookup x=some .local:=by first | exact .inl rfl | exact .inr rfl | assumption) :
  PS X (.AugAssign (.Name x pos') op e pos) (Zc i te ti):=by
 refine .mk ?_;intro pins s σ H D I h;obtain⟨v,e1,h⟩:=h;obtain⟨m,hn,hl⟩:=I.loc;have vis:Vis X.env.scope x:=by rcases hx with k | k; exact .inl k; exact .inr (.inl k)
 obtain⟨u,r,l⟩:=hl i x v hi e1 vis;refine wpAny_AugAssign_Name ?_
 have go:wpAny (model X.prog X.w) X.A (eval e X.env) (fun w s₂=>wpAny (model X.prog X.w) X.A (inplaceOp op u w) (fun r s₃=>wpAny (model X.prog X.w) X.A (storeName X.env x r) (fun _=>SP X pins D .next) X.xe s₃) X.xe s₂) X.xe s:=by
  refine cI (he pins s σ H _ I h) fun w s1 qx=>?_;obtain⟨y,H1,I1,r1,q1⟩:=qx;refine cI (ho pins s1 σ H1 v y u w _ I1 r r1 q1) fun z s2 qx=>?_;obtain⟨zv,H2,I2,r2,q2⟩:=qx;exact iy I2 hN hi hx r2 (fun s3 I3=>⟨_,H2,I3,q2⟩) hf
 rcases l with⟨hk,hm⟩ | ⟨hk,c,hc,hcell⟩
 ·exact wpAny_loadName_local I.ok.kind hk hn hm go
 ·rcases hk with hk | hk
  ·exact wpAny_loadName_cell I.ok.kind hk hc hcell go
  ·rcases hx with k | k
   ·have:X.env.scope.names.lookup x=some .free:=hk;rw[k] at this; cases this
   ·have:X.env.scope.names.lookup x=some .free:=hk;rw[k] at this; cases this
def Um (to ti te:TE) (Rk:V->V->Hp->VK->Prop) (tip:Yk) (Ri:Ms):TS:=fun D σ H=>to σ H fun o H1=>ti σ H1 fun i H2=>Rk o i H2 fun x H3=>te σ H3 fun y H4=>tip x y H4 fun z H5=>Ri o i z H5 fun H6=>D.nx σ H6
def aaR (X:Cx) (t:V->V->Hp->VK->Prop):Prop:=
 ∀(pins:List (Addr×Obj)) (s:Shared) (σ:St) (H:Hp) (o i:V) (ov iv:Value) (Q:VK),Inv X pins σ H s->RelV o ov->RelV i iv->t o i H Q ->
  wpAny (model X.prog X.w) X.A (getItem ov iv) (EP X pins σ Q) X.xe s
theorem RT {o i e:Expr} {to ti te:TE} {Rk:V->V->Hp->VK->Prop} {tip:Yk} {Ri:Ms} {op:Operator} {tpos:Pos} (ho:PE X o to) (hi:PE X i ti) (hg:aaR X Rk) (he:PE X e te) (hp:PIp X op tip) (hs:Mu X Ri)
  (ha:∀ov iv new,augStore i ov iv new=(do holding [new,ov,iv] (setItem ov iv new); release [new,ov,iv] []; pure .next):=by intros; rfl):PS X (.AugAssign (.Subscript o i tpos) op e pos) (Um to ti te Rk tip Ri):=by
 refine .mk ?_;intro pins s σ H D I h;refine wpAny_AugAssign_SubscriptAny (cI (ho pins s σ H _ I h) fun ov s1 ⟨x1,H1,I1,r1,q1⟩=>?_) ha;refine cI (hi pins s1 σ H1 _ I1 q1) fun iv s2 qx=>?_;obtain⟨x2,H2,I2,r2,q2⟩:=qx;refine cI (hg pins s2 σ H2 x1 x2 ov iv _ I2 r1 r2 q2) fun old s3 qx=>?_;obtain⟨x3,H3,I3,r3,q3⟩:=qx;refine cI (he pins s3 σ H3 _ I3 q3) fun v s4 qx=>?_;obtain⟨x4,H4,I4,r4,q4⟩:=qx;refine cI (hp pins s4 σ H4 x3 x4 old v _ I4 r3 r4 q4) fun new s5 qx=>?_;obtain⟨x5,H5,I5,r5,q5⟩:=qx;exact cI (hs pins s5 σ H5 x1 x2 x5 ov iv new _ I5 r1 r2 r5 q5) fun _ s6 ⟨H6,I6,q6⟩=>⟨σ,H6,I6,q6⟩
def ipI (f:Int->Int->Int):Yk:=fun x y H Q=>∃i j,x=.int i/\y=.int j/\Q (.int (f i j)) H
theorem Px:PIp X .Add (ipI fun i j=>i+j):=by
 intro pins s σ H x y v u Q I r1 r2 h;obtain⟨i,j,e1,e2,q⟩:=h;subst e1; subst e2;obtain⟨t,rfl⟩:=r1;obtain⟨t',rfl⟩:=r2;exact iadd_int ⟨.int _,H,I.tok _,⟨_,rfl⟩,q⟩
theorem Hs:PIp X .Sub (ipI fun i j=>i-j):=by
 intro pins s σ H x y v u Q I r1 r2 h;obtain⟨i,j,e1,e2,q⟩:=h;subst e1; subst e2;obtain⟨t,rfl⟩:=r1;obtain⟨t',rfl⟩:=r2;exact isub_int ⟨.int _,H,I.tok _,⟨_,rfl⟩,q⟩
end
section
variable {X:Cx} {pos:Pos}
end
structure It where
 go:Nat->Hp->Prop
 CN:Nat->Hp->V->Hp->Prop
 stop:Nat->Hp->Prop
def fV (X:Cx) (pins:List (Addr×Obj)) (H:Hp) (b:Addr):Prop:=
 H b=none/\b≠X.env.locals/\b∉X.fs/\(b∈X.ex\/X.s₀.heap.objs.size<=b)/\(∀x c,X.env.cells.lookup x=some c->c≠b)/\∀p∈X.pn++pins,p.1≠b
theorem Inv.tR {X:Cx} {pins:List (Addr×Obj)} {σ:St} {H H':Hp} {s:Shared} {b:Addr} (I:Inv X pins σ H s) (hb:s.heap.objs.size<=b) (hn:H' b=none):fV X pins H' b:=by
 refine⟨hn,Dh (mF I.lt hb),I.acM hb,.inr (j4 I.sz hb),fun x c e z=>?_,fun p hp z=>?_⟩
 ·obtain⟨v,q⟩:=I.cell x c e;exact absurd (mF q.lt (by rw[z]; exact hb)) (sX _)
 ·exact absurd (mF (cz (I.pin p hp).1) (by rw[z]; exact hb)) (sX _)
structure Turn (P:Program) (w:World) (K:PySem.W.Frag) (tg:Expr) (J:It) (fp:List Addr) (it:Addr) (tn:Nat->Heap->Prop):Prop where
 mem:it∈fp
 obj:∀i h,tn i h->∀b∈fp,∃o,h.get? b=some o/\∀v,o.data≠.cell v
 keep:∀i h h',tn i h->(∀b∈fp,∀o,h.get? b=some o->h'.get? b=some o)->tn i h'
 item:∀(X:Cx),X.prog=P->X.w=w->X.K=K->X.calm=true->∀(i:Nat) (pins:List (Addr×Obj)) (s:Shared) (σ:St) (H:Hp) (E:Value->Shared->Prop),Inv X pins σ H s->(∀b∈fp,fV X pins H b)->tn i s.heap->J.go i H ->
  wpAny (model P w) X.A (pyNext (.ref it)) (fun r s1=>∃u,r=some u /\
   wpAny (model P w) X.A (letOwnedTupleGo tg (.ref it) u) (fun _ s2=>∃x H',Inv X pins σ H' s2/\RelV x u/\J.CN i H x H'/\tn (i+1) s2.heap/\∀b∈fp,H' b=none) E s1) E s
 done:∀(X:Cx),X.prog=P->X.w=w->X.K=K->X.calm=true->∀(i:Nat) (pins:List (Addr×Obj)) (s:Shared) (σ:St) (H:Hp) (E:Value->Shared->Prop),Inv X pins σ H s->(∀b∈fp,fV X pins H b)->tn i s.heap->J.stop i H ->
  wpAny (model P w) X.A (pyNext (.ref it)) (fun r s1=>r=none/\Inv X pins σ H s1) E s
 self:∀(A:Around) (i:Nat) (s:Shared) (Q:Value->Shared->Prop) (E:Value->Shared->Prop),tn i s.heap->Q (.ref it) s->wpAny (model P w) A (pyIter (.ref it)) Q E s
abbrev TI:=St->Hp->(It->Hp->Prop)->Prop
def PIE (X:Cx) (pins:List (Addr×Obj)) (σ:St) (tg:Expr) (R:It->Hp->Prop) (itv:Value) (s2:Shared):Prop:=
 ∃(it:Addr) (fp:List Addr) (tn:Nat->Heap->Prop) (J:It) (H':Hp),itv=.ref it/\Inv X pins σ H' s2/\Turn X.prog X.w X.K tg J fp it tn/\tn 0 s2.heap/\(∀b∈fp,fV X pins H' b)/\R J H'
structure PI (X:Cx) (tg iter:Expr) (wi:TI):Prop where
 mk ::
 go :
 ∀(pins:List (Addr×Obj)) (s:Shared) (σ:St) (H:Hp) (R:It->Hp->Prop),Inv X pins σ H s->wi σ H R ->
  wpAny (model X.prog X.w) X.A (eval iter X.env) (fun v s1=>wpAny (model X.prog X.w) X.A (pyIter v) (PIE X pins σ tg R) X.xe s1) X.xe s
instance {X:Cx} {tg iter:Expr} {wi:TI}:CoeFun (PI X tg iter wi) (fun _=>
 ∀(pins:List (Addr×Obj)) (s:Shared) (σ:St) (H:Hp) (R:It->Hp->Prop),Inv X pins σ H s->wi σ H R ->
  wpAny (model X.prog X.w) X.A (eval iter X.env) (fun v s1=>wpAny (model X.prog X.w) X.A (pyIter v) (PIE X pins σ tg R) X.xe s1) X.xe s):=⟨PI.go⟩
theorem zp {M:Model} {A:Around} {E:Value->Shared->Prop} {s:Shared} {tg:Expr} {it:Addr} {u:Value} {o:Obj} {n:String} {vs:Array Value} {Q:Unit->Shared->Prop} (ho:s.heap.get? it=some o) (hc:o.cls=.type n) (hd:o.data=.fields vs)
  (hn:["enumerate","zip","dict_itemiterator","dict_reverseitemiterator","odict_iterator","itertools.zip_longest","itertools.pairwise"].contains n=false) (hQ:Q () s):wpAny M A (letOwnedTupleGo tg (.ref it) u) Q E s:=by
 unfold letOwnedTupleGo;cases tg <;> first
  | exact cF hQ
  | (cases u <;> first
    | exact cF hQ
    | (refine aW (wpAny_load ho ?_)
       rw[hc,hd];show wpAny M A (if(["enumerate","zip","dict_itemiterator","dict_reverseitemiterator","odict_iterator","itertools.zip_longest","itertools.pairwise"].contains n&&vs[0]?==some (rawInt _))=true then _ else _) Q E s
       rw[aZ (by intro h; rw[hn,Bool.false_and] at h; cases h)]
       exact cF hQ))
def Vj (K:PySem.W.Frag) (a:Addr):It:=
 ⟨fun i H=>∃xs x,cg K H a xs/\xs[i]?=some x,fun i H x H'=>H'=H/\∀xs,cg K H a xs->xs[i]?=some x,fun i H=>∃xs,cg K H a xs/\xs.length<=i⟩
def Vi (K:PySem.W.Frag) (a:Addr):It:=
 ⟨fun i H=>∃xs x,e_ K H a xs/\xs[i]?=some x,fun i H x H'=>H'=H/\∀xs,e_ K H a xs->xs[i]?=some x,fun i H=>∃xs,e_ K H a xs/\xs.length<=i⟩
def MF (lo:Int) (n:Nat):It:=⟨fun i _=>i<n,fun i H x H'=>H'=H/\x=.int (lo+i),fun i _=>n<=i⟩
theorem Kl {P:Program} {w:World} {K:PySem.W.Frag} {tg:Expr} (a it:Addr):Turn P w K tg (Vj K a) [it] it (fun i h=>h.IsListIter it a i) where
 mem:=by simp
 obj:=fun i h st b hb=>by
  have e:b=it:=by simpa using hb
  subst e;obtain⟨o,e,c,d⟩:=st;exact⟨o,e,fun v z=>by rw[d] at z; cases z⟩
 keep:=fun i h h' st k=>st.at fun o e=>k it (by simp) o e
 item:=by
  intro X hP hw hK hc i pins s σ H E I hf st hg;subst hP hw hK;obtain⟨xs,x,hq,hx⟩:=hg;obtain⟨its,rv,p,hz⟩:=I.list hq;obtain⟨u,hu,ru⟩:=rv.get hx;obtain⟨f0,f1,f2,f3,f4,f5⟩:=hf it (by simp)
  refine wpAny_pyNext_list_item st p.isList (x:=u) (by simpa using hu) fun h' st' sb=>?_
  have I1:Inv X pins σ H { s with heap:=h' }:=I.turned (t':=s.toks) (fun b o hb e=>(sb.2 b hb).trans e) f0 f1 f3 f4 f5
  obtain⟨o,e,c,d⟩:=id st';exact⟨u,rfl,zp (s:={ s with heap:=h' }) e c d (by decide) ⟨x,H,I1,ru,⟨rfl,fun ys hy=>by rw[I.wQ hy hq]; exact hx⟩,st',fun b hb=>(hf b hb).1⟩⟩
 done:=by
  intro X hP hw hK hc i pins s σ H E I hf st hg;subst hP hw hK;obtain⟨xs,hq,hx⟩:=hg;obtain⟨its,rv,p,hz⟩:=I.list hq;obtain⟨f0,f1,f2,f3,f4,f5⟩:=hf it (by simp)
  have hl:=rv.length;exact wpAny_pyNext_list_end (I.ok.hd hc) st p.isList (by simp; omega) fun h' eb=>⟨rfl,I.turned (t':=s.toks) (fun b o hb e=>eb b o hb e) f0 f1 f3 f4 f5⟩
 self:=fun _ _ _ _ _ st h=>wpAny_pyIter_listiter st h
theorem FT {P:Program} {w:World} {K:PySem.W.Frag} {tg:Expr} (a it:Addr):Turn P w K tg (Vi K a) [it] it (fun i h=>h.IsTupleIter it a i) where
 mem:=by simp
 obj:=fun i h st b hb=>by
  have e:b=it:=by simpa using hb
  subst e;obtain⟨o,e,c,d⟩:=st;exact⟨o,e,fun v z=>by rw[d] at z; cases z⟩
 keep:=fun i h h' st k=>st.at fun o e=>k it (by simp) o e
 item:=by
  intro X hP hw hK hc i pins s σ H E I hf st hg;subst hP hw hK;obtain⟨xs,x,hq,hx⟩:=hg;obtain⟨its,rv,p,hz⟩:=I.tuple hq;obtain⟨u,hu,ru⟩:=rv.get hx;obtain⟨f0,f1,f2,f3,f4,f5⟩:=hf it (by simp)
  refine wpAny_pyNext_tuple_item st (show s.heap.IsTuple a its.toArray from p) (x:=u) (by simpa using hu) fun h' st' sb=>?_
  have I1:Inv X pins σ H { s with heap:=h' }:=I.turned (t':=s.toks) (fun b o hb e=>(sb.2 b hb).trans e) f0 f1 f3 f4 f5
  obtain⟨o,e,c,d⟩:=id st';exact⟨u,rfl,zp (s:={ s with heap:=h' }) e c d (by decide) ⟨x,H,I1,ru,⟨rfl,fun ys hy=>by rw[I.yH hy hq]; exact hx⟩,st',fun b hb=>(hf b hb).1⟩⟩
 done:=by
  intro X hP hw hK hc i pins s σ H E I hf st hg;subst hP hw hK;obtain⟨xs,hq,hx⟩:=hg;obtain⟨its,rv,p,hz⟩:=I.tuple hq;obtain⟨f0,f1,f2,f3,f4,f5⟩:=hf it (by simp)
  have hl:=rv.length;exact wpAny_pyNext_tuple_end (I.ok.hd hc) st (show s.heap.IsTuple a its.toArray from p) (by simp; omega) fun h' eb=>⟨rfl,I.turned (t':=s.toks) (fun b o hb e=>eb b o hb e) f0 f1 f3 f4 f5⟩
 self:=fun _ _ _ _ _ st h=>wpAny_pyIter_tupleiter st h
theorem FW {P:Program} {w:World} {K:PySem.W.Frag} {tg:Expr} (it:Addr) (lo:Int) (n:Nat):Turn P w K tg (MF lo n) [it] it (fun i h=>IsRangeIter h it (lo+(i:Nat)*1) ((n:Int)-(i:Nat)) 1) where
 mem:=by simp
 obj:=fun i h st b hb=>by
  have e:b=it:=by simpa using hb
  subst e
  exact⟨_,st,fun v z=>by
   have z':Data.fields _=Data.cell v:=z
   cases z'⟩
 keep:=fun i h h' st k=>k it (by simp) _ st
 item:=by
  intro X hP hw hK hc i pins s σ H E I hf st hg;subst hP hw hK;obtain⟨f0,f1,f2,f3,f4,f5⟩:=hf it (by simp)
  have W:=Walks.range (prog:=X.prog) (w:=X.w) (I.ok.hd hc) it lo 1 n;refine W.item i s _ _ hg st fun v h' tk hv st' kk=>?_;obtain⟨t,rfl⟩:=hv;have I1:Inv X pins σ H { s with heap:=h',toks:=tk }:=I.turned (fun b o hb e=>kk b o (by simpa using hb) e) f0 f1 f3 f4 f5
  refine⟨_,rfl,zp (s:={ s with heap:=h',toks:=tk }) (n:="range_iterator") st' rfl rfl (by decide) ⟨.int (lo+i),H,I1,⟨t,?_⟩,⟨rfl,rfl⟩,st',fun b hb=>(hf b hb).1⟩⟩
  rw[Int.mul_one]
 done:=by
  intro X hP hw hK hc i pins s σ H E I hf st hg;subst hP hw hK;obtain⟨f0,f1,f2,f3,f4,f5⟩:=hf it (by simp)
  exact wpAny_pyNext_range_end (I.ok.hd hc) st (by have:n<=i:=hg; omega) fun h' eb=>⟨rfl,I.turned (t':=s.toks) (fun b o hb e=>eb b o hb e) f0 f1 f3 f4 f5⟩
 self:=fun _ _ _ _ _ st h=>Oq st h
section
variable {X:Cx} {tg:Expr}
def kJ (K:PySem.W.Frag) (tl:TE):TI:=fun σ H R=>tl σ H fun x H1=>∃a,x=.ref a/\(∃xs,cg K H1 a xs)/\R (Vj K a) H1
def Lw (K:PySem.W.Frag) (tl:TE):TI:=fun σ H R=>tl σ H fun x H1=>∃a,x=.ref a/\(∃xs,e_ K H1 a xs)/\R (Vi K a) H1
theorem RZ {l:Expr} {tl:TE} (hl:PE X l tl):PI X tg l (kJ X.K tl):=by
 refine .mk ?_;intro pins s σ H R I h;refine cI (hl pins s σ H _ I h) fun v s1 qx=>?_;obtain⟨x,H1,I1,r1,q1⟩:=qx;obtain⟨a,e,⟨xs,hq⟩,q⟩:=q1;subst e;cases r1;obtain⟨its,rv,p,hz⟩:=I1.list hq;refine Gz p.isList ?_;refine⟨s1.heap.objs.size,[s1.heap.objs.size],_,_,H1,rfl,I1.kept (t':=s1.toks) fun b o e=>dW _ e,Kl a _,⟨_,dw _ rfl,rfl,rfl⟩,fun b hb=>?_,q⟩;have e:b=s1.heap.objs.size:=by simpa using hb
 subst e;exact I1.tR (bL _) (I1.hok.fresh (bL _))
theorem Wa {l:Expr} {tl:TE} (hl:PE X l tl):PI X tg l (Lw X.K tl):=by
 refine .mk ?_;intro pins s σ H R I h;refine cI (hl pins s σ H _ I h) fun v s1 qx=>?_;obtain⟨x,H1,I1,r1,q1⟩:=qx;obtain⟨a,e,⟨xs,hq⟩,q⟩:=q1;subst e;cases r1;obtain⟨its,rv,p,hz⟩:=I1.tuple hq;refine Jm (show s1.heap.IsTuple a its.toArray from p) ?_;refine⟨s1.heap.objs.size,[s1.heap.objs.size],_,_,H1,rfl,I1.kept (t':=s1.toks) fun b o e=>dW _ e,FT a _,⟨_,dw _ rfl,rfl,rfl⟩,fun b hb=>?_,q⟩;have e:b=s1.heap.objs.size:=by simpa using hb
 subst e;exact I1.tR (bL _) (I1.hok.fresh (bL _))
theorem Oi {pins:List (Addr×Obj)} {σ:St} {H:Hp} {s:Shared} {R:It->Hp->Prop} {E:Value->Shared->Prop} {lo hi:Int} {t u v:Tok} {tk:Nat} (I:Inv X pins σ H s) (h1:-(2 ^ 62)<=lo) (h2:lo<2 ^ 62) (h3:-(2 ^ 62)<=hi) (h4:hi<2 ^ 62)
  (q:R (MF lo (hi-lo).toNat) H):wpAny (model X.prog X.w) X.A (pyIter (.ref s.heap.objs.size)) (PIE X pins σ tg R) E { s with heap:=s.heap.push { cls:=.type "range",data:=.fields #[.int lo t,.int hi u,.int 1 v] },toks:=tk }:=by
 refine wpAny_pyIter_range (IsRange.new ..) (small_one h1 h2 h3 h4) ?_;have I1:Inv X pins σ H { s with heap:=s.heap.push { cls:=.type "range",data:=.fields #[.int lo t,.int hi u,.int 1 v] },toks:=tk }:=I.kept fun b o e=>dW _ e
 refine⟨(s.heap.push { cls:=.type "range",data:=.fields #[.int lo t,.int hi u,.int 1 v] }).objs.size,[(s.heap.push { cls:=.type "range",data:=.fields #[.int lo t,.int hi u,.int 1 v] }).objs.size],_,_,H,rfl,
  I1.kept (t':=tk) fun b o e=>dW _ e,FW _ lo (hi-lo).toNat,?_,fun b hb=>?_,q⟩
 ·have e1:lo+((0:Nat):Int)*1=lo:=by simp
  have e2:(((hi-lo).toNat:Nat):Int)-((0:Nat):Int)=Builtin.Range.rangeSize lo hi 1:=by rw[rangeSize_one]; split <;> omega
  show IsRangeIter _ _ (lo+((0:Nat):Int)*1) ((((hi-lo).toNat:Nat):Int)-((0:Nat):Int)) 1;rw[e1,e2];exact dw _ rfl
 ·have e:b=(s.heap.push { cls:=.type "range",data:=.fields #[.int lo t,.int hi u,.int 1 v] }).objs.size:=by simpa using hb
  subst e;exact I1.tR (bL _) (I1.hok.fresh (bL _))
def zm (ta:TA):TI:=fun σ H R=>ta σ H fun vs H1=>∃j:Int,vs=[.int j]/\-(2 ^ 62)<=j/\j<2 ^ 62/\R (MF 0 j.toNat) H1
theorem dF {a:Expr} {ta:TA} {p pos:Pos} (hg:Gl X "range") (hm:X.mg "range" = none) (ha:PA X [a] ta) (hs:starEach [a] X.env=[(false,eval a X.env)]:=by rfl):PI X tg (.Call (.Name "range" p) [a] [] pos) (zm ta):=by
 refine .mk ?_;intro pins s σ H R I h;refine Call_ (iJ I hg hm boot_range (PyProof.Rows.callWith_type1 (cI (ha pos pins s σ H _ I h) fun us s1 ⟨vs,H1,I1,r1,q1⟩=>?_) hs rfl));obtain⟨j,e,q1,q2,q⟩:=q1;subst e;cases r1 with
 | cons r rr=>
  cases rr;obtain⟨t,rfl⟩:=r;exact call_range_1 (Oi I1 (by omega) (by omega) q1 q2 (by simpa using q))
def CW (wi:TI) (g:TG) (tb:TS):TS:=fun D σ H=>wi σ H fun J H1=>∃W:Nat->Nat->St->Hp->Prop,(∃m,W 0 m σ H1)/\∀i m σ H,W i m σ H ->
 (J.stop i H/\D.nx σ H)\/(J.go i H/\∃N:St->Hp->Prop,(∀σ' H',N σ' H'->∃m',m'<m/\W (i+1) m' σ' H')/\∀x H',J.CN i H x H'->g x σ H' fun σ2 H2=>tb { D with nx:=N,ct:=N,bk:=D.nx } σ2 H2)
def An (fp:List Addr) (h:Heap):List (Addr×Obj):=fp.filterMap fun b=>(h.get? b).map fun o=>(b,o)
theorem dg {fp:List Addr} {h:Heap} {b:Addr} {o:Obj} (hb:b∈fp) (e:h.get? b=some o):(b,o)∈An fp h:=List.mem_filterMap.mpr ⟨b,hb,by rw[e]; rfl⟩
theorem Lg {fp:List Addr} {h:Heap} {p:Addr×Obj} (hp:p∈An fp h):p.1∈fp/\h.get? p.1=some p.2:=by
 obtain⟨b,hb,e⟩:=List.mem_filterMap.mp hp;cases q:h.get? b with
 | none=>rw[q] at e; cases e
 | some o=>
  rw[q] at e;have e':(b,o)=p:=Option.some.inj e;subst e';exact⟨hb,q⟩
theorem Inv.pinned {pins:List (Addr×Obj)} {σ:St} {H:Hp} {s:Shared} {fp:List Addr} (I:Inv X pins σ H s) (hf:∀b∈fp,fV X pins H b) (ho:∀b∈fp,∃o,s.heap.get? b=some o/\∀v,o.data≠.cell v):Inv X (pins++An fp s.heap) σ H s:=
 I.Js fun p hp=>(fZ.mp hp).elim (fun z=>I.pin p (iG _ z)) fun z=>by
  obtain⟨hb,e⟩:=Lg z;obtain⟨f0,f1,f2,_⟩:=hf p.1 hb;obtain⟨o,e',d⟩:=ho p.1 hb;rw[e] at e'; cases e';exact⟨e,f0,f1,f2,d⟩
theorem Inv.iw {pins pl:List (Addr×Obj)} {σ:St} {H:Hp} {s:Shared} (I:Inv X (pins++pl) σ H s):Inv X pins σ H s:=I.Js fun p hp=>I.pin p (iG _ (Ol _ hp))
theorem gA {iter:Expr} {body:List Stmt} {wi:TI} {g:TG} {tb:TS} {pos:Pos} (hp:PassesOwn (model X.prog X.w) X.A X.env X.xe) (hc:X.calm=true) (hi:PI X tg iter wi) (hg:PG X tg g) (hb:Fo X body tb)
  (hs:∀x,foldedSetIterable iter X.env x=pure x:=by intro _; rfl):PS X (.For tg iter body [] pos) (CW wi g tb):=by
 refine .mk ?_;intro pins s σ H D I h;refine wpAny_For (cI (hi pins s σ H _ I h) fun v s1 h1=>cI h1 fun itv s2 h2=>?_) hs;obtain⟨it,fp,tn,J,H2,e,I2,T,st2,f2,W,⟨m0,w0⟩,turn⟩:=h2;subst e;have stat:∀{H':Hp},(∀b∈fp,H' b=none)->∀b∈fp,fV X pins H' b:=fun hn b hb=>⟨hn b hb,(f2 b hb).2⟩;refine codeAny_forLoop_any (fun n s'=>∃i σ' H',Inv X pins σ' H' s'/\tn i s'.heap/\(∀b∈fp,H' b=none)/\W i n σ' H') ?_ m0 ⟨0,σ,H2,I2,st2,fun b hb=>(f2 b hb).1,w0⟩;rintro n s3 ⟨i,σ3,H3,I3,st3,fr3,w3⟩;rcases turn i n σ3 H3 w3 with⟨stop,qn⟩ | ⟨go,N,hN,step⟩
 ·refine DQ hp (cI (T.done X rfl rfl rfl hc i pins s3 σ3 H3 X.xe I3 (stat fr3) st3 stop) fun r s4 qx=>?_);obtain⟨hr,I4⟩:=qx;subst hr;exact wpAny_execs_nil ⟨σ3,H3,I4,qn⟩
 ·refine DQ hp (cI (T.item X rfl rfl rfl hc i pins s3 σ3 H3 X.xe I3 (stat fr3) st3 go) fun r s4 qx=>?_);obtain⟨u,hr,h4⟩:=qx;subst hr;refine DQ hp (cI h4 fun _ s5 qx=>?_);obtain⟨x,H5,I5,r5,y5,Ro,Xg⟩:=qx;have I5':=I5.pinned (stat Xg) (T.obj _ _ Ro);refine DQ hp (cI (hg _ s5 σ3 H5 x u _ I5' r5 (step x H5 y5)) fun _ s6 qx=>?_);obtain⟨σ6,H6,I6,q6⟩:=qx;refine DQ hp (cI (hb _ s6 σ6 H6 _ I6 q6) fun f s7 q7=>?_)
  have again:∀{σ7:St} {H7:Hp},Inv X (pins++An fp s5.heap) σ7 H7 s7->N σ7 H7->∃m,m<n/\∃i σ' H',Inv X pins σ' H' s7/\tn i s7.heap/\(∀b∈fp,H' b=none)/\W i m σ' H':=fun {σ7 H7} I7 n7=>by
   obtain⟨m',hm,w7⟩:=hN σ7 H7 n7;refine⟨m',hm,i+1,σ7,H7,I7.iw,T.keep _ _ _ Ro fun b hb o e=>(I7.pin (b,o) (iG _ (iG _ (dg hb e)))).1,fun b hb=>?_,w7⟩;obtain⟨o,e,d⟩:=T.obj _ _ Ro b hb;exact(I7.pin (b,o) (iG _ (iG _ (dg hb e)))).2.1
  cases f with
  | next=>obtain⟨σ7,H7,I7,n7⟩:=q7; exact again I7 n7
  | cont=>obtain⟨σ7,H7,I7,n7⟩:=q7; exact again I7 n7
  | brk=>obtain⟨σ7,H7,I7,q7⟩:=q7; exact⟨σ7,H7,I7.iw,q7⟩
  | ret v=>obtain⟨x7,σ7,H7,I7,r7,q7⟩:=q7; exact⟨x7,σ7,H7,I7.iw,r7,q7⟩
end
theorem Qa {K:PySem.W.Frag} {a:Addr} {xs:List V} {g:TG} {tb:TS} {D:Ends} {σ:St} {H:Hp} (Pv:Nat->St->Hp->Prop) (h0:Pv 0 σ H) (hl:∀i σ H,i<=xs.length->Pv i σ H->cg K H a xs)
  (hs:∀i x σ H,xs[i]?=some x->Pv i σ H->g x σ H fun σ2 H2=>tb { D with nx:=Pv (i+1),ct:=Pv (i+1),bk:=D.nx } σ2 H2) (hd:∀σ H,Pv xs.length σ H->D.nx σ H) :
  ∃W:Nat->Nat->St->Hp->Prop,(∃m,W 0 m σ H)/\∀i m σ H,W i m σ H ->
   ((Vj K a).stop i H/\D.nx σ H)\/((Vj K a).go i H/\∃N:St->Hp->Prop,(∀σ' H',N σ' H'->∃m',m'<m/\W (i+1) m' σ' H')/\∀x H',(Vj K a).CN i H x H'->g x σ H' fun σ2 H2=>tb { D with nx:=N,ct:=N,bk:=D.nx } σ2 H2):=by
 refine⟨fun i m σ H=>m=xs.length-i/\i<=xs.length/\Pv i σ H,⟨xs.length,by simp,gw _,h0⟩,?_⟩
 rintro i m σ H ⟨rfl,hi,p⟩;have q:=hl i σ H hi p;by_cases hlt:i<xs.length
 ·refine .inr ⟨⟨xs,xs[i],q,by simp[hlt]⟩,Pv (i+1),fun σ' H' p'=>⟨xs.length-(i+1),by omega,rfl,hlt,p'⟩,fun x H' y=>?_⟩
  obtain⟨e,y⟩:=y;subst e;exact hs i x σ _ (y xs q) p
 ·have e:i=xs.length:=by omega
  subst e;exact .inl ⟨⟨xs,q,bL _⟩,hd σ H p⟩
theorem Tn {K:PySem.W.Frag} {a:Addr} {xs:List V} {g:TG} {tb:TS} {D:Ends} {σ:St} {H:Hp} (Pv:Nat->St->Hp->Prop) (h0:Pv 0 σ H) (hl:∀i σ H,i<=xs.length->Pv i σ H->e_ K H a xs)
  (hs:∀i x σ H,xs[i]?=some x->Pv i σ H->g x σ H fun σ2 H2=>tb { D with nx:=Pv (i+1),ct:=Pv (i+1),bk:=D.nx } σ2 H2) (hd:∀σ H,Pv xs.length σ H->D.nx σ H) :
  ∃W:Nat->Nat->St->Hp->Prop,(∃m,W 0 m σ H)/\∀i m σ H,W i m σ H ->
   ((Vi K a).stop i H/\D.nx σ H)\/((Vi K a).go i H/\∃N:St->Hp->Prop,(∀σ' H',N σ' H'->∃m',m'<m/\W (i+1) m' σ' H')/\∀x H',(Vi K a).CN i H x H'->g x σ H' fun σ2 H2=>tb { D with nx:=N,ct:=N,bk:=D.nx } σ2 H2):=by
 refine⟨fun i m σ H=>m=xs.length-i/\i<=xs.length/\Pv i σ H,⟨xs.length,by simp,gw _,h0⟩,?_⟩
 rintro i m σ H ⟨rfl,hi,p⟩;have q:=hl i σ H hi p;by_cases hlt:i<xs.length
 ·refine .inr ⟨⟨xs,xs[i],q,by simp[hlt]⟩,Pv (i+1),fun σ' H' p'=>⟨xs.length-(i+1),by omega,rfl,hlt,p'⟩,fun x H' y=>?_⟩
  obtain⟨e,y⟩:=y;subst e;exact hs i x σ _ (y xs q) p
 ·have e:i=xs.length:=by omega
  subst e;exact .inl ⟨⟨xs,q,bL _⟩,hd σ H p⟩
theorem zu {lo:Int} {n:Nat} {g:TG} {tb:TS} {D:Ends} {σ:St} {H:Hp} (Pv:Nat->St->Hp->Prop) (h0:Pv 0 σ H)
  (hs:∀i σ H,i<n->Pv i σ H->g (.int (lo+i)) σ H fun σ2 H2=>tb { D with nx:=Pv (i+1),ct:=Pv (i+1),bk:=D.nx } σ2 H2) (hd:∀σ H,Pv n σ H->D.nx σ H) :
  ∃W:Nat->Nat->St->Hp->Prop,(∃m,W 0 m σ H)/\∀i m σ H,W i m σ H ->
   ((MF lo n).stop i H/\D.nx σ H)\/((MF lo n).go i H/\∃N:St->Hp->Prop,(∀σ' H',N σ' H'->∃m',m'<m/\W (i+1) m' σ' H')/\∀x H',(MF lo n).CN i H x H'->g x σ H' fun σ2 H2=>tb { D with nx:=N,ct:=N,bk:=D.nx } σ2 H2):=by
 refine⟨fun i m σ H=>m=n-i/\i<=n/\Pv i σ H,⟨n,by simp,gw _,h0⟩,?_⟩
 rintro i m σ H ⟨rfl,hi,p⟩;by_cases hlt:i<n
 ·refine .inr ⟨hlt,Pv (i+1),fun σ' H' p'=>⟨n-(i+1),by omega,rfl,hlt,p'⟩,fun x H' y=>?_⟩
  obtain⟨e,y⟩:=y;subst e y;exact hs i σ _ hlt p
 ·have e:i=n:=by omega
  subst e;exact .inl ⟨bL _,hd σ H p⟩
abbrev R2:=V->V->Hp->VK->Prop
structure mG (X:Cx) (f:Value->Value->Sem Value) (r:R2):Prop where
 mk ::
 go :
 ∀(pins:List (Addr×Obj)) (s:Shared) (σ:St) (H:Hp) (x y:V) (v u:Value) (Q:VK),Inv X pins σ H s->RelV x v->RelV y u->r x y H Q ->
  wpAny (model X.prog X.w) X.A (f v u) (EP X pins σ Q) X.xe s
instance {X:Cx} {f:Value->Value->Sem Value} {r:R2}:CoeFun (mG X f r) (fun _=>
 ∀(pins:List (Addr×Obj)) (s:Shared) (σ:St) (H:Hp) (x y:V) (v u:Value) (Q:VK),Inv X pins σ H s->RelV x v->RelV y u->r x y H Q ->
  wpAny (model X.prog X.w) X.A (f v u) (EP X pins σ Q) X.xe s):=⟨mG.go⟩
structure UnR (X:Cx) (f:Value->Sem Value) (r:V->Hp->VK->Prop):Prop where
 mk ::
 go :
 ∀(pins:List (Addr×Obj)) (s:Shared) (σ:St) (H:Hp) (x:V) (v:Value) (Q:VK),Inv X pins σ H s->RelV x v->r x H Q ->
  wpAny (model X.prog X.w) X.A (f v) (EP X pins σ Q) X.xe s
instance {X:Cx} {f:Value->Sem Value} {r:V->Hp->VK->Prop}:CoeFun (UnR X f r) (fun _=>
 ∀(pins:List (Addr×Obj)) (s:Shared) (σ:St) (H:Hp) (x:V) (v:Value) (Q:VK),Inv X pins σ H s->RelV x v->r x H Q ->
  wpAny (model X.prog X.w) X.A (f v) (EP X pins σ Q) X.xe s):=⟨UnR.go⟩
structure cZ (X:Cx) (f:Value) (r:List V->Hp->VK->Prop):Prop where
 mk ::
 go :
 ∀(pins:List (Addr×Obj)) (s:Shared) (σ:St) (H:Hp) (xs:List V) (us:List Value) (Q:VK),Inv X pins σ H s->Vals xs us->r xs H Q ->
  wpAny (model X.prog X.w) X.A (call f us) (EP X pins σ Q) X.xe s
instance {X:Cx} {f:Value} {r:List V->Hp->VK->Prop}:CoeFun (cZ X f r) (fun _=>
 ∀(pins:List (Addr×Obj)) (s:Shared) (σ:St) (H:Hp) (xs:List V) (us:List Value) (Q:VK),Inv X pins σ H s->Vals xs us->r xs H Q ->
  wpAny (model X.prog X.w) X.A (call f us) (EP X pins σ Q) X.xe s):=⟨cZ.go⟩
def Vy (r:R2) (ta tb:TE):TE:=fun σ H Q=>ta σ H fun x H1=>tb σ H1 fun y H2=>r x y H2 Q
def tUn (r:V->Hp->VK->Prop) (ta:TE):TE:=fun σ H Q=>ta σ H fun x H1=>r x H1 Q
def rI (C:Int->Int->Prop) (g:Int->Int->V):R2:=fun x y H Q=>∃i j,x=.int i/\y=.int j/\C i j/\Q (g i j) H
def RL (g:Int->Int->V):R2:=fun x y H Q=>∃i j,x=.int i/\y=.int j/\Q (g i j) H
def rU (g:Int->V):V->Hp->VK->Prop:=fun x H Q=>∃i,x=.int i/\Q (g i) H
section
variable {X:Cx} {a b c:Expr} {ta tb tc:TE} {pos:Pos}
theorem Xr (ha:PE X a ta) (hb:PE X b tb) {pins:List (Addr×Obj)} {s:Shared} {σ:St} {H:Hp} {R:V->V->Hp->Prop} (I:Inv X pins σ H s)
  (h:ta σ H fun x H1=>tb σ H1 fun y H2=>R x y H2) {Q:Value->Shared->Prop} {f:Value->Value->Sem Value}
  (hf:∀v u s2 x y H2,Inv X pins σ H2 s2->RelV x v->RelV y u->R x y H2->wpAny (model X.prog X.w) X.A (f v u) Q X.xe s2) :
  wpAny (model X.prog X.w) X.A (eval a X.env) (fun v s₁=>wpAny (model X.prog X.w) X.A (eval b X.env) (fun u s₂=>wpAny (model X.prog X.w) X.A (f v u) Q X.xe s₂) X.xe s₁) X.xe s:=by
 refine cI (ha pins s σ H _ I h) fun v s1 qx=>?_;obtain⟨x,H1,I1,r1,q1⟩:=qx;refine cI (hb pins s1 σ H1 _ I1 q1) fun u s2 qx=>?_;obtain⟨y,H2,I2,r2,q2⟩:=qx;exact hf v u s2 x y H2 I2 r1 r2 q2
theorem aU {op:Operator} {r:R2} (ho:mG X (binaryOp op) r) (ha:PE X a ta) (hb:PE X b tb):PE X (.BinOp a op b pos) (Vy r ta tb):=by
 refine .mk ?_;intro pins s σ H Q I h;exact wpAny_BinOp (Xr ha hb I h fun v u s2 x y H2 I2 rx ry q=>ho pins s2 σ H2 x y v u Q I2 rx ry q)
theorem UT {op:UnaryOp} {r:V->Hp->VK->Prop} (ho:UnR X (unaryOp op) r) (ha:PE X a ta):PE X (.UnaryOp op a pos) (tUn r ta):=by
 refine .mk ?_;intro pins s σ H Q I h;exact UnaryOp_ (cI (ha pins s σ H _ I h) fun v s1 ⟨x,H1,I1,r1,q1⟩=>ho pins s1 σ H1 x v Q I1 r1 q1)
theorem Z1 {f:Value->Value->Sem Value} {C:Int->Int->Prop} {g:Int->Int->Int}
  (rule:∀(i j:Int) (t u:Tok) (s:Shared) (Q:Value->Shared->Prop) (E:Value->Shared->Prop),C i j->Q (.int (g i j) s.toks) { s with toks:=s.toks+1 }->wpAny (model X.prog X.w) X.A (f (.int i t) (.int j u)) Q E s) :
  mG X f (rI C fun i j=>.int (g i j)):=by
 refine .mk ?_;intro pins s σ H x y v u Q I rx ry h;obtain⟨i,j,rfl,rfl,hc,q⟩:=h;obtain⟨t,rfl⟩:=rx;obtain⟨t',rfl⟩:=ry;exact rule i j t t' s _ _ hc ⟨.int (g i j),H,I.tok _,⟨_,rfl⟩,q⟩
theorem Z0 {f:Value->Value->Sem Value} {g:Int->Int->Int}
  (rule:∀(i j:Int) (t u:Tok) (s:Shared) (Q:Value->Shared->Prop) (E:Value->Shared->Prop),Q (.int (g i j) s.toks) { s with toks:=s.toks+1 }->wpAny (model X.prog X.w) X.A (f (.int i t) (.int j u)) Q E s) :
  mG X f (RL fun i j=>.int (g i j)):=by
 refine .mk ?_;intro pins s σ H x y v u Q I rx ry h;obtain⟨i,j,rfl,rfl,q⟩:=h;obtain⟨t,rfl⟩:=rx;obtain⟨t',rfl⟩:=ry;exact rule i j t t' s _ _ ⟨.int (g i j),H,I.tok _,⟨_,rfl⟩,q⟩
theorem Sh {f:Value->Value->Sem Value} {g:Int->Int->Bool}
  (rule:∀(i j:Int) (t u:Tok) (s:Shared) (Q:Value->Shared->Prop) (E:Value->Shared->Prop),Q (.bool (g i j)) s->wpAny (model X.prog X.w) X.A (f (.int i t) (.int j u)) Q E s) :
  mG X f (RL fun i j=>.bl (g i j)):=by
 refine .mk ?_;intro pins s σ H x y v u Q I rx ry h;obtain⟨i,j,rfl,rfl,q⟩:=h;obtain⟨t,rfl⟩:=rx;obtain⟨t',rfl⟩:=ry;exact rule i j t t' s _ _ ⟨.bl (g i j),H,I,rfl,q⟩
def aei (i j:Int):Prop:=0<j/\j<1073741824
def aeh (i j:Int):Prop:=0<=j/\j<=1000000/\i.natAbs<2 ^ 64
def Ua (i j:Int):Prop:=(-(2 ^ 64)<i/\i<2 ^ 64)\/(-(2 ^ 64)<j/\j<2 ^ 64)
theorem Ua.ok {i j:Int} (h:Ua i j):IntMulOk i j:=by
 rcases h with⟨h1,h2⟩ | ⟨h1,h2⟩
 ·exact .of_left (intBits_le_64 h1 h2)
 ·exact .of_right (intBits_le_64 h1 h2)
theorem bC:mG X (binaryOp .Add) (RL fun i j=>.int (i+j)):=Z0 fun _ _ _ _ _ _ _ q=>add_int q
theorem jt:mG X (binaryOp .Sub) (RL fun i j=>.int (i-j)):=Z0 fun _ _ _ _ _ _ _ q=>sub_int q
theorem j5:mG X (binaryOp .Mult) (rI Ua fun i j=>.int (i*j)):=Z1 fun _ _ _ _ _ _ _ hc q=>mul_int q hc.ok
theorem Sd:mG X (binaryOp .FloorDiv) (rI aei fun i j=>.int (i / j)):=Z1 fun i j _ _ _ _ _ hc q=>by
 have h1:(0:Int)<j:=hc.1;have h2:j<1073741824:=hc.2;exact floordiv_int (by omega) (by rw[Int.fdiv_eq_ediv_of_nonneg i (by omega)]; exact q) (.inl (PyProof.noPylong_small (by omega)))
theorem lM:mG X (binaryOp .Mod) (rI (fun _ j=>0<j) fun i j=>.int (i % j)):=Z1 fun i j _ _ _ _ _ hc q=>by
 have h1:(0:Int)<j:=hc;exact mod_int' (by omega) (by rw[Int.fmod_eq_emod_of_nonneg i (by omega)]; exact q)
theorem qb:mG X (binaryOp .Pow) (rI aeh fun i j=>.int (i ^ j.toNat)):=Z1 fun _ _ _ _ _ _ _ hc q=>pow_int_small hc.1 hc.2.1 hc.2.2 q
theorem unI {f:Value->Sem Value} {g:Int->Int}
  (rule:∀(i:Int) (t:Tok) (s:Shared) (Q:Value->Shared->Prop) (E:Value->Shared->Prop),Q (.int (g i) s.toks) { s with toks:=s.toks+1 }->wpAny (model X.prog X.w) X.A (f (.int i t)) Q E s) :
  UnR X f (rU fun i=>.int (g i)):=by
 refine .mk ?_;intro pins s σ H x v Q I rx h;obtain⟨i,rfl,q⟩:=h;obtain⟨t,rfl⟩:=rx;exact rule i t s _ _ ⟨.int (g i),H,I.tok _,⟨_,rfl⟩,q⟩
theorem M5:UnR X (unaryOp .USub) (rU fun i=>.int (-i)):=unI fun _ _ _ _ _ q=>neg_int q
end
def Kz:V->V->Bool
 | .non,.non=>true | .non,.int _=>true | .int _,.non=>true | .non,.bl _=>true | .bl _,.non=>true | .non,.str _=>true | .str _,.non=>true
 | .int _,.int _=>true | .bl _,.bl _=>true | .str _,.str _=>true | .Mp _,.Mp _=>true
 | .int _,.str _=>true | .str _,.int _=>true | .bl _,.str _=>true | .str _,.bl _=>true
 | _,_=>false
def ZM:R2:=fun x y H Q=>Kz x y=true/\Q (.bl (decide (x=y))) H
def ZD:R2:=fun x y H Q=>Kz x y=true/\Q (.bl (!decide (x=y))) H
theorem J1 {i j:Int}:decide (V.int i=V.int j)=(i==j):=by
 rw[DG];simp
theorem Qi {i j:Bool}:decide (V.bl i=V.bl j)=(i==j):=by
 rw[DG];simp
theorem J0 {i j:Str}:decide (V.str i=V.str j)=(i==j):=by
 rw[DG];simp
theorem J2 {i j:Array UInt8}:decide (V.Mp i=V.Mp j)=(i.toList==j.toList):=by
 rw[DG];cases i;cases j;simp
section
variable {X:Cx} {a b c:Expr} {ta tb tc:TE} {pos:Pos}
theorem bN {pins:List (Addr×Obj)} {σ:St} {H:Hp} {s:Shared} {Q:VK} {k k':Bool} (I:Inv X pins σ H s) (q:Q (.bl k) H) (e:k=k'):EP X pins σ Q (.bool k') s:=by
 subst e;exact⟨.bl k,H,I,rfl,q⟩
theorem gR:mG X (compareOp .Eq) ZM:=by
 refine .mk ?_;intro pins s σ H x y v u Q I rx ry h;obtain⟨hs,q⟩:=h;cases x with
 | non=>
  cases rx;cases y with
  | non=>cases ry; exact PySem.EqNone.eq_none_none (bN I q (by simp))
  | bl j=>cases ry; exact PySem.EqNone.eq_none_bool (bN I q (by simp))
  | int j=>obtain⟨t',rfl⟩:=ry; exact PySem.EqNone.eq_none_int (bN I q (by simp))
  | str j=>obtain⟨t',rfl⟩:=ry; exact PySem.EqNone.eq_none_str (bN I q (by simp))
  | _=>exact absurd (show false=true from hs) jE
 | bl i=>
  cases rx;cases y with
  | non=>cases ry; exact PySem.EqNone.eq_bool_none (bN I q (by simp))
  | bl j=>cases ry; exact eq_bool (bN I q Qi)
  | str j=>obtain⟨t',rfl⟩:=ry; exact PySem.EqMixed.eq_bool_str (bN I q (by simp))
  | _=>exact absurd (show false=true from hs) jE
 | int i=>
  obtain⟨t,rfl⟩:=rx;cases y with
  | non=>cases ry; exact PySem.EqNone.eq_int_none (bN I q (by simp))
  | int j=>obtain⟨t',rfl⟩:=ry; exact eq_int (bN I q J1)
  | str j=>obtain⟨t',rfl⟩:=ry; exact PySem.EqMixed.eq_int_str (bN I q (by simp))
  | _=>exact absurd (show false=true from hs) jE
 | str i=>
  obtain⟨t,rfl⟩:=rx;cases y with
  | non=>cases ry; exact PySem.EqNone.eq_str_none (bN I q (by simp))
  | bl j=>cases ry; exact PySem.EqMixed.eq_str_bool (bN I q (by simp))
  | int j=>obtain⟨t',rfl⟩:=ry; exact PySem.EqMixed.eq_str_int (bN I q (by simp))
  | str j=>obtain⟨t',rfl⟩:=ry; exact eq_str (bN I q J0)
  | _=>exact absurd (show false=true from hs) jE
 | Mp i=>
  obtain⟨t,rfl⟩:=rx;cases y with
  | Mp j=>obtain⟨t',rfl⟩:=ry; exact PySem.W.eq_bytes (bN I q J2)
  | _=>exact absurd (show false=true from hs) jE
 | _=>cases y <;> exact absurd (show false=true from hs) jE
theorem Jw:mG X (compareOp .NotEq) ZD:=by
 refine .mk ?_;intro pins s σ H x y v u Q I rx ry h;obtain⟨hs,q⟩:=h;cases x with
 | non=>
  cases rx;cases y with
  | non=>cases ry; exact PySem.EqNone.ne_none_none (bN I q (by simp))
  | bl j=>cases ry; exact PySem.EqNone.ne_none_bool (bN I q (by simp))
  | int j=>obtain⟨t',rfl⟩:=ry; exact PySem.EqNone.ne_none_int (bN I q (by simp))
  | str j=>obtain⟨t',rfl⟩:=ry; exact PySem.EqNone.ne_none_str (bN I q (by simp))
  | _=>exact absurd (show false=true from hs) jE
 | bl i=>
  cases rx;cases y with
  | non=>cases ry; exact PySem.EqNone.ne_bool_none (bN I q (by simp))
  | bl j=>cases ry; exact ne_bool (bN I q (nq not Qi))
  | str j=>obtain⟨t',rfl⟩:=ry; exact PySem.EqMixed.ne_bool_str (bN I q (by simp))
  | _=>exact absurd (show false=true from hs) jE
 | int i=>
  obtain⟨t,rfl⟩:=rx;cases y with
  | non=>cases ry; exact PySem.EqNone.ne_int_none (bN I q (by simp))
  | int j=>obtain⟨t',rfl⟩:=ry; exact ne_int (bN I q (nq not J1))
  | str j=>obtain⟨t',rfl⟩:=ry; exact PySem.EqMixed.ne_int_str (bN I q (by simp))
  | _=>exact absurd (show false=true from hs) jE
 | str i=>
  obtain⟨t,rfl⟩:=rx;cases y with
  | non=>cases ry; exact PySem.EqNone.ne_str_none (bN I q (by simp))
  | bl j=>cases ry; exact PySem.EqMixed.ne_str_bool (bN I q (by simp))
  | int j=>obtain⟨t',rfl⟩:=ry; exact PySem.EqMixed.ne_str_int (bN I q (by simp))
  | str j=>obtain⟨t',rfl⟩:=ry; exact ne_str (bN I q (nq not J0))
  | _=>exact absurd (show false=true from hs) jE
 | Mp i=>
  obtain⟨t,rfl⟩:=rx;cases y with
  | Mp j=>obtain⟨t',rfl⟩:=ry; exact PySem.W.ne_bytes (bN I q (nq not J2))
  | _=>exact absurd (show false=true from hs) jE
 | _=>cases y <;> exact absurd (show false=true from hs) jE
theorem wA:mG X (compareOp .Lt) (RL fun i j=>.bl (decide (i<j))):=Sh fun _ _ _ _ _ _ _ q=>lt_int q
theorem Ea:mG X (compareOp .LtE) (RL fun i j=>.bl (decide (i<=j))):=Sh fun _ _ _ _ _ _ _ q=>le_int q
theorem yX:mG X (compareOp .Gt) (RL fun i j=>.bl (decide (j<i))):=Sh fun _ _ _ _ _ _ _ q=>gt_int q
theorem ZZ:mG X (compareOp .GtE) (RL fun i j=>.bl (decide (j<=i))):=Sh fun _ _ _ _ _ _ _ q=>ge_int q
theorem K_:mG X (compareOp .In) (fun x y H Q=>∃i j,x=.str i/\y=.str j/\Q (.bl (!(Builtin.Str.occurrences j i 0 j.length 1).isEmpty)) H):=by
 refine .mk ?_;intro pins s σ H x y v u Q I rx ry h;obtain⟨i,j,rfl,rfl,q⟩:=h;obtain⟨t,rfl⟩:=rx;obtain⟨t',rfl⟩:=ry;exact in_str (bN I q rfl)
theorem A_:mG X (compareOp .Is) (fun x y H Q=>y=.non/\Q (.bl (decide (x=.non))) H):=by
 refine .mk ?_;intro pins s σ H x y v u Q I rx ry h;obtain⟨rfl,q⟩:=h;cases ry;refine is_none_gen (bN I q ?_);cases x <;> first
  | (cases rx; rfl)
  | (obtain⟨t,rfl⟩:=rx; rfl)
theorem Ay:mG X (compareOp .IsNot) (fun x y H Q=>y=.non/\Q (.bl (!decide (x=.non))) H):=by
 refine .mk ?_;intro pins s σ H x y v u Q I rx ry h;obtain⟨rfl,q⟩:=h;cases ry;refine isnot_none_gen (bN I q ?_);cases x <;> first
  | (cases rx; rfl)
  | (obtain⟨t,rfl⟩:=rx; rfl)
theorem bw (b:Expr) {op:CmpOp} (h:op≠.In:=by decide) (h2:op≠.NotIn:=by decide):behindInMarks op b=false:=by
 have e1:(op==CmpOp.In)=false:=by cases op <;> first | rfl | exact absurd rfl h
 have e2:(op==CmpOp.NotIn)=false:=by cases op <;> first | rfl | exact absurd rfl h2
 cases b <;> simp[behindInMarks,e1,e2]
theorem eQ {op:CmpOp} {r:R2} (ho:mG X (compareOp op) r) (ha:PE X a ta) (hb:PE X b tb) (hm:behindInMarks op b=false):PE X (.Compare a [op] [b] pos) (Vy r ta tb):=by
 refine .mk ?_;intro pins s σ H Q I h;exact wpAny_Compare1 (Xr ha hb I h fun v u s2 x y H2 I2 rx ry q=>ho pins s2 σ H2 x y v u Q I2 rx ry q) hm
def Nk (t:TE):TT:=fun σ H Q=>t σ H fun x H'=>∃k,x=.bl k/\Q k H'
theorem bz {op:CmpOp} {r:R2} (ho:mG X (compareOp op) r) (ha:PE X a ta) (hb:PE X b tb) (hm:behindInMarks op b=false):PT X (.Compare a [op] [b] pos) (Nk (Vy r ta tb)):=by
 refine .mk ?_;intro pins s σ H Q I h
 refine wpAny_isTrue_Compare1 (cI (ha pins s σ H _ I h) fun v s1 ⟨x,H1,I1,r1,q1⟩=>cI (hb pins s1 σ H1 _ I1 q1) fun u s2 ⟨y,H2,I2,r2,q2⟩=>
  cI (ho pins s2 σ H2 x y v u _ I2 r1 r2 q2) fun c s3 ⟨z,H3,I3,r3,k,e,q3⟩=>?_) hm
 subst e;cases r3;exact Dn ⟨H3,I3,q3⟩
def Nt (r r':R2) (ta tb tc:TE):TE:=fun σ H Q=>ta σ H fun x H1=>tb σ H1 fun y H2=>r x y H2 fun z H3=>∃k,z=.bl k /\
 (if k=true then tc σ H3 fun w' H4=>r' y w' H4 Q else Q (.bl false) H3)
theorem DX {op op':CmpOp} {r r':R2} (ho:mG X (compareOp op) r) (ho':mG X (compareOp op') r') (ha:PE X a ta) (hb:PE X b tb) (hc:PE X c tc)
  (hm:lastMarks [op,op'] [b,c]=false:=by with_unfolding_all rfl):PT X (.Compare a [op,op'] [b,c] pos) (Nk (Nt r r' ta tb tc)):=by
 refine .mk ?_;intro pins s σ H Q I h
 refine isTrue_chain (cI (ha pins s σ H _ I h) fun v s1 ⟨x,H1,I1,r1,q1⟩=>test_link (cI (hb pins s1 σ H1 _ I1 q1) fun u s2 ⟨y,H2,I2,r2,q2⟩=>
  cI (ho pins s2 σ H2 x y v u _ I2 r1 r2 q2) fun d s3 ⟨z,H3,I3,r3,k,e,q3⟩=>?_)) hm
 subst e;cases r3;refine Dn ?_;cases k with
 | false=>
  obtain⟨k',e',q'⟩:=q3;cases e';exact ite_ff ⟨H3,I3,q'⟩
 | true=>
  refine ite_tt (test_last (cI (hc pins s3 σ H3 _ I3 q3) fun w' s4 ⟨z',H4,I4,r4,q4⟩=>cI (ho' pins s4 σ H4 y z' u w' _ I4 r2 r4 q4) fun d' s5 qx=>?_));obtain⟨z2,H5,I5,r5,k2,e2,q5⟩:=qx;subst e2;cases r5;exact Dn ⟨H5,I5,q5⟩
def ad8 (K:PySem.W.Frag) (x:V) (H:Hp) (k:Bool):Prop:=
 match x with
 | .non=>k=false
 | .bl b=>k=b
 | .int i=>k=(i != 0)
 | .str y=>y.length<=sizeLine/\k=((y.length:Int) != 0)
 | .Mp y=>y.size<=sizeLine/\k=((y.size:Int) != 0)
 | .ref p=>(∃xs,cg K H p xs/\k = !xs.isEmpty)\/(∃xs,e_ K H p xs/\k = !xs.isEmpty)\/∃kvs,H p=some (.dK kvs)/\k = !kvs.isEmpty
 | _=>False
theorem qg:(sizeLine:Nat)<2 ^ 63:=by rw[sizeLine_eq]; decide
theorem qd:mG X (binaryOp .Add) (fun x y H Q=>∃i j,x=.str i/\y=.str j/\i.length+j.length<=sizeLine/\Q (.str (i++j)) H):=by
 refine .mk ?_;intro pins s σ H x y v u Q I rx ry h;obtain⟨i,j,rfl,rfl,hz,q⟩:=h;obtain⟨t,rfl⟩:=rx;obtain⟨t',rfl⟩:=ry;exact add_str (fun t' tk=>⟨.str (i++j),H,I.tok _,⟨_,rfl⟩,q⟩) hz
theorem vals1 {x:V} {us:List Value} (r:Vals [x] us):∃u,us=[u]/\RelV x u:=by
 cases r with
 | cons r1 r2=>cases r2; exact⟨_,rfl,r1⟩
theorem vals2 {x y:V} {us:List Value} (r:Vals [x,y] us):∃u w',us=[u,w']/\RelV x u/\RelV y w':=by
 cases r with
 | cons r1 r2=>
  cases r2 with
  | cons r3 r4=>cases r4; exact⟨_,_,rfl,r1,r3⟩
theorem Ey:cZ X (.builtin "abs") (fun xs H Q=>∃i,xs=[.int i]/\Q (.int (if i<0 then -i else i)) H):=by
 refine .mk ?_;intro pins s σ H xs us Q I r h;obtain⟨i,rfl,q⟩:=h;obtain⟨u,rfl,t,rfl⟩:=vals1 r;exact call_abs_int fun u tk=>⟨.int (if i<0 then -i else i),H,I.tok _,⟨_,rfl⟩,q⟩
theorem k_ (hc:X.calm=true):cZ X (.builtin "max") (fun xs H Q=>∃i j,xs=[.int i,.int j]/\Q (.int (if j>i then j else i)) H):=by
 refine .mk ?_;intro pins s σ H xs us Q I r h;obtain⟨i,j,rfl,q⟩:=h;obtain⟨u,w',rfl,⟨t,rfl⟩,⟨t',rfl⟩⟩:=vals2 r;refine max_two_ints (I.ok.hd hc) fun h' tk k=>⟨_,H,I.kept k,?_,q⟩;by_cases hj:j>i
 ·rw[bu hj,bu hj]; exact⟨_,rfl⟩
 ·rw[aZ hj,aZ hj]; exact⟨_,rfl⟩
theorem fD (hc:X.calm=true):cZ X (.builtin "min") (fun xs H Q=>∃i j,xs=[.int i,.int j]/\Q (.int (if j<i then j else i)) H):=by
 refine .mk ?_;intro pins s σ H xs us Q I r h;obtain⟨i,j,rfl,q⟩:=h;obtain⟨u,w',rfl,⟨t,rfl⟩,⟨t',rfl⟩⟩:=vals2 r;refine min_two_ints (I.ok.hd hc) fun h' tk k=>⟨_,H,I.kept k,?_,q⟩;by_cases hj:j<i
 ·rw[bu hj,bu hj]; exact⟨_,rfl⟩
 ·rw[aZ hj,aZ hj]; exact⟨_,rfl⟩
end
structure Ig (h:Heap) (x dx C:Addr) (mA:Str->Option Value):Prop where
 obj:h.get? x=some (PySem.W.instObj C dx)
 ns:h.Ns1 dx mA
 ne:dx≠x
theorem Lk {h:Heap} {dx:Addr} {mA:Str->Option Value} (n:h.Ns1 dx mA):∃od,h.get? dx=some od/\∀name,PySem.W.lookIn name od=some (mA name):=by
 obtain⟨o,es,ep,ho,hd,hk,_,hm⟩:=n;refine⟨o,ho,fun name=>?_⟩;have e:=hm name;unfold nsFind findBy at e;rw[<- Array.find?_toList] at e;unfold PySem.W.lookIn;rw[hd];dsimp only;split
 ·rename_i y q;rw[q] at e;exact nq some e
 ·rename_i q;rw[q] at e
  have a:es.toList.any (·.refKey)=false:=by
   rw[List.any_eq_false];intro y hy;obtain⟨z,t,hkey⟩:=hk y (Array.mem_toList_iff.mp hy);simp[DictEntry.refKey,hkey]
  have a':¬es.toList.any (·.refKey)=true:=by rw[a]; exact jE
  rw[aZ a'];exact nq some e
theorem Ig.look {h:Heap} {x dx C:Addr} {mA:Str->Option Value} (I:Ig h x dx C mA):∃od,PySem.W.InstAt h x (PySem.W.instObj C dx) C (some od)/\∀name,PySem.W.lookIn name od=some (mA name):=
 let ⟨od,ho,hl⟩:=Lk I.ns
 ⟨od,⟨I.obj,rfl,rfl,ho⟩,hl⟩
section
variable {prog:Program} {w:World} {A:Around} {E:Value->Shared->Prop} {s:Shared} {K:PySem.W.Frag} {x dx C f:Addr} {mA:Str->Option Value} {name:Str} {v:Value}
theorem get_map {expr:Bool} {Q:Value->Shared->Prop} (X:K.In s.heap) (I:Ig s.heap x dx C mA) (hg:PySem.W.plainGet K C name=true) (hh:PySem.W.hasDictIn K C=true)
  (ha:PySem.W.findIn K (.ref C) name=some none) (hv:mA name=some v) (hv':PySem.W.handedIn v=true) (h:Q v { s with toks:=s.toks+1 }) :
  wpAny (model prog w) A (getAttr (.ref x) name expr) Q E s:=by
 obtain⟨od,J,hl⟩:=I.look;exact PySem.W.get_value X J (PySem.W.plainGet_of hg).1 (PySem.W.findObj_own hh ha rfl (by rw[hl,hv])) hv' h
theorem P0 {pl:Sem Bool} {Q:Value×List Value->Shared->Prop} (X:K.In s.heap) (I:Ig s.heap x dx C mA) (hg:PySem.W.plainGet K C name=true)
  (hf:PySem.W.findIn K (.ref C) name=some (some (.ref f))) (ht:PySem.W.isFn K (.ref f)=true) (hv:mA name=none) (h:Q (.ref f,[.ref x]) s) :
  wpAny (model prog w) A (getMethod (.ref x) name pl) Q E s:=by
 obtain⟨od,J,hl⟩:=I.look;exact PySem.W.method_fn X J (PySem.W.plainGet_of hg).1 (PySem.W.plainGet_of hg).2 hf (beq_iff_eq.mp ht) (by show(PySem.W.lookIn name od).map (·.isSome)=some false; rw[hl,hv]; rfl) h
theorem Rq {ns:List Str} {Q:Unit->Shared->Prop} (X:K.In s.heap) (I:Ig s.heap x dx C mA)
  (hs:PySem.W.findIn K (.ref C) "__setattr__" = some (some (.builtin "object.__setattr__"))) (hp:PySem.W.plainOver K C=true) (ht:PySem.W.takerIn K C name=some none) (hh:PySem.W.hasDictIn K C=true)
  (hw:PySem.Within mA ns) (hsz:ns.length<=sizeLine)
  (h:∀h',Ig h' x dx C (fun y=>if y=name then some v else mA y)->Heap.SameBut dx s.heap h'->Q () { s with heap:=h',toks:=s.toks+2 }) :
  wpAny (model prog w) A (setAttr (.ref x) name v) Q E s:=by
 obtain⟨od,J,hl⟩:=I.look;refine PySem.W.set_plain X J hs (PySem.W.osa_open (s:={ s with toks:=s.toks+1 }) (r:=none) X J hp ht fun b=>?_)
 obtain⟨cd,hc,hd'⟩:=PySem.W.any_some hh;have hx:s.heap.get? x=some ⟨.ref C,some dx,.plain,#[]⟩:=I.obj;refine aW (cF (aW (aW (wpAny_loadPart hx (aW (PySem.W.Looks.here (s:={ s with toks:=s.toks+1 }) (PySem.W.looks_clsIn X hc) ?_))))))
 rw[hd'];refine cF (a:=some dx) (aW (cF (aW ?_)));refine wpAny_nsSet1 (s:={ s with toks:=s.toks+1 }) I.ns fun h' hn2 hs2=>?_
 obtain⟨oD,esD,epD,hoD,hdD,hcD⟩:=hn2.count (PySem.Within.cons name v hw);refine aW (wpAny_lookBehind hoD (by rw[hdD]; exact pastItsLine_dict (j4 hcD (by rw[gZ]; omega))) ?_)
 exact cF (h _ ⟨(hs2.2 _ (Ne.symm I.ne)).trans I.obj,hn2,I.ne⟩ hs2)
theorem Ph {R:Result->Shared->Prop} {vs:List Value} {kw:List (Str×Value)} (X:K.In s.heap) (hm:PySem.W.makesIn K C=true)
  (hi:PySem.W.findIn K (.ref C) "__init__" = some (some (.ref f))) (hf:PySem.W.typeIn K (.ref f)=some (.type "function"))
  (h:codeAny (model prog w) (A.under (.builtin "type.__call__" ⟨.ref C::vs,kw⟩)) (.call (.ref f) ⟨.ref (s.heap.objs.size+1)::vs,kw⟩) (PySem.W.InitBack (s.heap.objs.size+1) R)
   { s with heap:=(s.heap.push PySem.W.emptyDict).push (PySem.W.instObj C s.heap.objs.size) }) :
  codeAny (model prog w) A (.call (.ref C) ⟨vs,kw⟩) R s:=by
 obtain⟨hh,g,d,t,os⟩:=s;exact PySem.W.make_core (PySem.W.makes_of X hm) (PySem.W.looks_findIn X hi) (fun self=>PySem.W.bind_fn X self hf) (.inl rfl) h
end
def jq (f:Str) (v:V):List (Str×V)->List (Str×V)
 | []=>[(f,v)]
 | (g,x)::r=>if g=f then(g,v)::r else(g,x)::jq f v r
theorem um (f g:Str) (v:V):∀fs:List (Str×V),(jq f v fs).lookup g=if g=f then some v else fs.lookup g
 | []=>by
  show List.lookup g [(f,v)]=_;by_cases h:g=f
  ·have hb:(g==f)=true:=beq_iff_eq.mpr h;simp only[List.lookup,hb,bu h]
  ·have hb:(g==f)=false:=beq_eq_false_iff_ne.mpr h;simp only[List.lookup,hb,aZ h]
 | (k,x)::r=>by
  have ih:=um f g v r;rw[show jq f v ((k,x)::r)=(if k=f then(k,v)::r else(k,x)::jq f v r) from rfl]
  by_cases hk:k=f
  ·rw[bu hk];by_cases h:g=k
   ·have hb:(g==k)=true:=beq_iff_eq.mpr h;simp only[List.lookup,hb,bu (h.trans hk)]
   ·have hb:(g==k)=false:=beq_eq_false_iff_ne.mpr h;simp only[List.lookup,hb,aZ (fun e:g=f=>h (e.trans hk.symm))]
  ·rw[aZ hk];by_cases h:g=k
   ·have hb:(g==k)=true:=beq_iff_eq.mpr h;simp only[List.lookup,hb,aZ (fun e:g=f=>hk (h.symm.trans e))]
   ·have hb:(g==k)=false:=beq_eq_false_iff_ne.mpr h;simp only[List.lookup,hb];exact ih
theorem tQ (f:Str) (v:V):∀fs:List (Str×V),f∈(jq f v fs).map (·.1)/\∀g,g∈fs.map (·.1)->g∈(jq f v fs).map (·.1)
 | []=>⟨by simp[jq],fun g h=>by simp at h⟩
 | (k,x)::r=>by
  obtain⟨i1,i2⟩:=tQ f v r;rw[show jq f v ((k,x)::r)=(if k=f then(k,v)::r else(k,x)::jq f v r) from rfl]
  by_cases hk:k=f
  ·rw[bu hk];subst hk;exact⟨by simp,fun g h=>by simpa using h⟩
  ·rw[aZ hk];refine⟨?_,fun g h=>?_⟩
   ·rw[iB];exact g8 _ i1
   ·rw[iB] at h ⊢;rcases bI.mp h with e | e
    ·exact bI.mpr (.inl e)
    ·exact g8 _ (i2 g e)
theorem uo (f:Str) (v:V):∀fs:List (Str×V),(jq f v fs).length<=fs.length+1
 | []=>by simp[jq]
 | (k,x)::r=>by
  have ih:=uo f v r;rw[show jq f v ((k,x)::r)=(if k=f then(k,v)::r else(k,x)::jq f v r) from rfl]
  by_cases hk:k=f
  ·rw[bu hk,gZ,gZ]; omega
  ·rw[aZ hk,gZ,gZ]; omega
theorem pF.some_of {v:V} {o:Option Value} (r:pF (some v) o):∃u,o=some u/\RelV v u:=by
 cases o with
 | none=>exact(show False from r).elim
 | some u=>exact⟨u,rfl,r⟩
theorem pF.none_of {o:Option Value} (r:pF none o):o=none:=by
 cases o with
 | none=>rfl
 | some u=>exact(show False from r).elim
theorem Lz {v:V} {u:Value} (r:RelV v u):PySem.W.handedIn u=true:=by
 cases v with
 | non=>cases(show u=Value.none from r); rfl
 | bl b=>cases(show u=Value.bool b from r); rfl
 | int i=>obtain⟨t,e⟩:=(show ∃t,u=Value.int i t from r); cases e; rfl
 | str x=>obtain⟨t,e⟩:=(show ∃t,u=Value.str x t from r); cases e; rfl
 | Mp b=>obtain⟨t,e⟩:=(show ∃t,u=Value.bytes b t from r); cases e; rfl
 | flt b=>obtain⟨t,e⟩:=(show ∃t,u=Value.float b t from r); cases e; rfl
 | ref a=>cases(show u=Value.ref a from r); rfl
 | ty n=>cases(show u=Value.type n from r); rfl
section
variable {P:Program} {w:World} {H H':Hp} {h h':Heap} {a C dx:Addr} {fs fs':List (Str×V)}
theorem q_ (hok:nY P w H h) (e:H a=some (.ins C dx fs)):∃mA,Ig h a dx C mA/\(∀f,pF (fs.lookup f) (mA f))/\PySem.Within mA (fs.map (·.1))/\fs.length<=1000/\H dx=some (.own a):=by
 obtain⟨d,z,ne,ob,mA,n,r,q⟩:=(show cC P w H h a (.ins C dx fs) from hok a _ e);exact⟨mA,⟨ob,n,ne⟩,r,q,z,d⟩
end
structure Fq (K:PySem.W.Frag) (C:Addr):Prop where
 pg:PySem.W.plainGet K C Str.empty=true
 hd:PySem.W.hasDictIn K C=true
 po:PySem.W.plainOver K C=true
 sa:PySem.W.findIn K (.ref C) "__setattr__" = some (some (.builtin "object.__setattr__"))
theorem Fq.get {K:PySem.W.Frag} {C:Addr} (c:Fq K C) (f:Str):PySem.W.plainGet K C f=true:=c.pg
def cU (K:PySem.W.Frag) (C:Addr) (f:Str):Prop:=PySem.W.findIn K (.ref C) f=some none
theorem cU.taker {K:PySem.W.Frag} {C:Addr} {f:Str} (n:cU K C f):PySem.W.takerIn K C f=some none:=by
 unfold PySem.W.takerIn;rw[show PySem.W.findIn K (.ref C) f=some none from n];rfl
structure Con (K:PySem.W.Frag) (C:Addr) (f:Str) (v:V) (u:Value):Prop where
 at_:PySem.W.findIn K (.ref C) f=some (some u)
 rel:RelV v u
 get:PySem.W.specialIn K u "__get__" = some none
 cp:PySem.W.copiedNames.contains f=false
structure Meth (K:PySem.W.Frag) (C:Addr) (m:Str) (f:Addr):Prop where
 at_:PySem.W.findIn K (.ref C) m=some (some (.ref f))
 fn:PySem.W.isFn K (.ref f)=true
 kp:PySem.W.keepIn K (.ref f)=true
section
variable {X:Cx} {pins:List (Addr×Obj)} {σ:St} {H:Hp} {s:Shared} {a C dx:Addr} {fs:List (Str×V)} {f:Str} {v:V} {A:Around} {E:Value->Shared->Prop}
theorem Hv {b:Bool} {Q:Value->Shared->Prop} (I:Inv X pins σ H s) (e:H a=some (.ins C dx fs)) (c:Fq X.K C) (n:cU X.K C f) (l:fs.lookup f=some v)
  (h:∀u s',Inv X pins σ H s'->RelV v u->Q u s'):wpAny (model X.prog X.w) A (getAttr (.ref a) f b) Q E s:=by
 obtain⟨mA,O,r,_,_,_⟩:=q_ I.hok e;obtain⟨u,hu,ru⟩:=pF.some_of (v:=v) (o:=mA f) (by rw[<- l]; exact r f)
 exact get_map I.mH O (c.get f) c.hd n hu (Lz ru) (h u _ (I.tok _) ru)
theorem wV {m:Str} {g:Addr} {pl:Sem Bool} {Q:Value×List Value->Shared->Prop} (I:Inv X pins σ H s) (e:H a=some (.ins C dx fs)) (c:Fq X.K C) (k:Meth X.K C m g) (l:fs.lookup m=none)
  (h:Q (.ref g,[.ref a]) s):wpAny (model X.prog X.w) A (getMethod (.ref a) m pl) Q E s:=by
 obtain⟨mA,O,r,_,_,_⟩:=q_ I.hok e;have hn:mA m=none:=pF.none_of (by rw[<- l]; exact r m)
 exact P0 I.mH O (c.get m) k.at_ k.fn hn h
theorem Gk {y:V} {u:Value} {Q:Unit->Shared->Prop} (I:Inv X pins σ H s) (e:H a=some (.ins C dx fs)) (c:Fq X.K C) (n:cU X.K C f) (hl:fs.length<1000) (ry:RelV y u)
  (h:∀s',Inv X pins σ (upd H a (.ins C dx (jq f y fs))) s'->Q () s'):wpAny (model X.prog X.w) A (setAttr (.ref a) f u) Q E s:=by
 obtain⟨mA,O,r,wi,_,ho⟩:=q_ I.hok e;have hz:(fs.map (·.1)).length<=sizeLine:=by rw[bZ,sizeLine_eq]; omega
 refine Rq I.mH O c.sa c.po n.taker c.hd wi hz fun h' O' sb=>h _ ?_;have hd:∃o,h'.get? dx=some o:=let ⟨o,_,_,e',_⟩:=O'.ns; ⟨o,e'⟩;refine I.write (x:=a) (e:=dx) (by rw[e]; exact True.intro) (.inr ho) (fun b q hb z=>(sb.2 b hb).trans z) hd ?_
 refine⟨by rw[aN O.ne]; exact ho,?_,O.ne,O'.obj,_,O'.ns,fun g=>?_,fun g hg=>?_⟩
 ·have:=uo f y fs; omega
 ·show pF ((jq f y fs).lookup g) (if g=f then some u else mA g)
  rw[um];by_cases q:g=f
  ·rw[bu q,bu q]; exact ry
  ·rw[aZ q,aZ q]; exact r g
 ·by_cases q:g=f
  ·rw[q]; exact(tQ f y fs).1
  ·refine(tQ f y fs).2 g (wi g fun z=>hg ?_);show(if g=f then some u else mA g)=none
   rw[aZ q]; exact z
theorem Inv.made (I:Inv X pins σ H s):Inv X pins σ (upd (upd H s.heap.objs.size (.own (s.heap.objs.size+1))) (s.heap.objs.size+1) (.ins C s.heap.objs.size []))
  { s with heap:=(s.heap.push PySem.W.emptyDict).push (PySem.W.instObj C s.heap.objs.size) }:=by
 have e1:(s.heap.push PySem.W.emptyDict).get? s.heap.objs.size=some PySem.W.emptyDict:=dw s.heap rfl
 have e2:((s.heap.push PySem.W.emptyDict).push (PySem.W.instObj C s.heap.objs.size)).get? (s.heap.objs.size+1)=some (PySem.W.instObj C s.heap.objs.size):=by
  have:=dw (s.heap.push PySem.W.emptyDict) (o:=PySem.W.instObj C s.heap.objs.size) rfl
  rwa [gK] at this
 have e3:(s.heap.push PySem.W.emptyDict).Ns s.heap.objs.size (fun _=>none):=⟨PySem.W.emptyDict,#[],_,e1,rfl,(fun e he=>absurd he (by simp)),fun _=>rfl⟩
 have I1:=I.laid (a:=s.heap.objs.size) (o:=.own (s.heap.objs.size+1)) (h':=s.heap.push PySem.W.emptyDict) (t':=s.toks) (fun b u q=>dW _ q) (bL _) ⟨_,e1⟩;refine I1.laid (a:=s.heap.objs.size+1) (o:=.ins C s.heap.objs.size []) (t':=s.toks) (fun b u q=>dW _ q) (Nat.le_of_eq (gK _ _)) ?_;have ne:s.heap.objs.size≠s.heap.objs.size+1:=fP (Dk _);refine⟨by rw[aN ne,aC],gw _,ne,e2,fun _=>none,(Heap.Ns1.of_empty e3).at fun o q=>dW _ q,fun _=>True.intro,fun y hy=>absurd rfl hy⟩
theorem T4 {prog:Program} {w:World} {env:Env} {e:Expr} {f:Str} {pos:Pos} {s:Shared} {Q:Value->Shared->Prop} (hb:attributeBase e f env (eval e env)=eval e env)
  (h:wpAny (model prog w) A (eval e env) (fun o s₁=>wpAny (model prog w) A (getAttr o f true) Q E s₁) E s):wpAny (model prog w) A (eval (.Attribute e f pos) env) Q E s:=
 Attribute_any_ h (by rw[arm_eval_Attribute,hb])
end
def VB (K:PySem.W.Frag) (ta:TE) (f:Str):TE:=fun σ H Q=>ta σ H fun x H1=>∃a C dx fs v,x=.ref a/\H1 a=some (.ins C dx fs)/\Fq K C/\cU K C f/\fs.lookup f=some v/\Q v H1
def V0 (K:PySem.W.Frag) (ta tv:TE) (f:Str):TS:=fun D σ H=>tv σ H fun y H1=>ta σ H1 fun x H2=>∃a C dx fs,x=.ref a/\H2 a=some (.ins C dx fs)/\Fq K C/\cU K C f/\fs.length<1000 /\
 D.nx σ (upd H2 a (.ins C dx (jq f y fs)))
def aaY (X:Cx) (op:Operator) (rd:V->V->Hp->VK->Prop):Prop:=
 ∀(pins:List (Addr×Obj)) (s:Shared) (σ:St) (H:Hp) (x y:V) (u v:Value) (Q:VK),Inv X pins σ H s->RelV x u->RelV y v->rd x y H Q->wpAny (model X.prog X.w) X.A (inplaceOp op u v) (EP X pins σ Q) X.xe s
section
variable {X:Cx} {o e value:Expr} {f:Str} {pos pos' tpos:Pos} {ta tv:TE}
theorem Wg (he:PE X e ta) (hb:attributeBase e f X.env (eval e X.env)=eval e X.env):PE X (.Attribute e f pos) (VB X.K ta f):=by
 refine .mk ?_;intro pins s σ H Q I h;refine T4 hb (cI (he pins s σ H _ I h) fun u s1 qx=>?_);obtain⟨x,H1,I1,rx,a,C,dx,fs,v,ex,ea,c,n,l,q⟩:=qx;subst ex;obtain rfl:u=Value.ref a:=rx;exact Hv I1 ea c n l fun u' s2 I2 ru=>⟨v,H1,I2,ru,q⟩
theorem V8 (ha:PE X o ta) (hv:PE X value tv) (hs:swapsWith value (some (.Attribute o f pos')) pos.line X.env=pure false):PS X (.Assign [.Attribute o f pos'] value pos) (V0 X.K ta tv f):=by
 refine .mk ?_;intro pins s σ H D I h;refine plainObj_wpAny_Assign_Attribute (cI (hv pins s σ H _ I h) fun u s1 ⟨y,H1,I1,ry,q⟩=>cI (ha pins s1 σ H1 _ I1 q) fun ov s2 ⟨x,H2,I2,rx,a,C,dx,fs,ex,ea,c,n,l,q2⟩=>?_) hs;subst ex;obtain rfl:ov=Value.ref a:=rx;exact Gk I2 ea c n l ry fun s3 I3=>⟨σ,_,I3,q2⟩
def acC:V->V->Hp->VK->Prop:=fun x y H Q=>∃i j,x=.int i/\y=.int j/\Q (.int (i+j)) H
theorem WY:aaY X .Add acC:=by
 rintro pins s σ H x y u v Q I rx ry ⟨i,j,rfl,rfl,q⟩;obtain⟨t,rfl⟩:=(show ∃t,u=Value.int i t from rx);obtain⟨t',rfl⟩:=(show ∃t',v=Value.int j t' from ry);exact PyProof.Rows.iadd_int ⟨.int (i+j),H,I.tok _,⟨_,rfl⟩,q⟩
end
section
variable {X:Cx} {pins:List (Addr×Obj)} {σ:St} {H:Hp} {s:Shared} {A:Around} {E:Value->Shared->Prop} {Q:Value->Shared->Prop} {c:Value} {b:Bool}
inductive rO (K:PySem.W.Frag) (H:Hp):V->Value->Prop where
 | non:rO K H .non (.type "NoneType")
 | bl (x:Bool):rO K H (.bl x) (.type "bool")
 | int (i:Int):rO K H (.int i) (.type "int")
 | str (x:Str):rO K H (.str x) (.type "str")
 | flt (x:UInt64):rO K H (.flt x) (.type "float")
 | lst {a:Addr} {xs:List V} (e:H a=some (.lst xs)):rO K H (.ref a) (.type "list")
 | rR {a:Addr} {o:Obj} {xs:List V} (e:H a=some (.rR o (.lst xs))):rO K H (.ref a) (.type "list")
 | tup {a:Addr} {xs:List V} (e:H a=some (.tup xs)):rO K H (.ref a) (.type "tuple")
 | dK {a:Addr} {kvs:List (Key×V)} (e:H a=some (.dK kvs)):rO K H (.ref a) (.type "dict")
 | dT {a:Addr} {kvs:List (List Key×V)} (e:H a=some (.dT kvs)):rO K H (.ref a) (.type "dict")
 | ins {a C dx:Addr} {fs:List (Str×V)} (e:H a=some (.ins C dx fs)) (cl:Fq K C) (ha:PySem.W.findIn K (.ref C) "__class__" = some (some (.builtin "object.__class__")))
   (hn:PySem.W.specialIn K (.builtin "object.__class__") "__get__" = some (some (.builtin "getset_descriptor.__get__"))) (htk:PySem.W.takesIn K (.builtin "object.__class__")=some true)
   (hm:PySem.W.mroIn K C (.type "object")=some true):rO K H (.ref a) (.ref C)
theorem Lr {x:V} {u t:Value} (I:Inv X pins σ H s) (rx:RelV x u) (ty:rO X.K H x t) (e:PySem.W.kitOne X.K t c=some b) (h:∀tk,Q (.bool b) { s with toks:=tk }) :
  wpAny (model X.prog X.w) A (call (.builtin "isinstance") [u,c]) Q E s:=by
 cases ty with
 | non=>cases(show u=Value.none from rx); exact PySem.W.kia_one PySem.W.kitx_none I.mH True.intro e (fun z=>nomatch z) h
 | bl y=>cases(show u=Value.bool y from rx); exact PySem.W.kia_one PySem.W.kitx_bool I.mH True.intro e (fun z=>nomatch z) h
 | int i=>obtain⟨t,q⟩:=(show ∃t,u=Value.int i t from rx); cases q; exact PySem.W.kia_one PySem.W.kitx_int I.mH True.intro e (fun z=>nomatch z) h
 | str y=>obtain⟨t,q⟩:=(show ∃t,u=Value.str y t from rx); cases q; exact PySem.W.kia_one PySem.W.kitx_str I.mH True.intro e (fun z=>nomatch z) h
 | flt y=>obtain⟨t,q⟩:=(show ∃t,u=Value.float y t from rx); cases q; exact PySem.W.kia_one PySem.W.kitx_float I.mH True.intro e (fun z=>nomatch z) h
 | @lst a xs ea=>
  cases(show u=Value.ref a from rx);obtain⟨_,_,n,_,h1⟩:=(show cC X.prog X.w H s.heap a (.lst xs) from I.hok a _ ea);exact PySem.W.kia_one PySem.W.kitx_list I.mH ⟨_,h1,rfl⟩ e (fun z=>nomatch z) h
 | @rR a ob xs ea=>
  cases(show u=Value.ref a from rx);obtain⟨_,_,_,n,_,h1⟩:=(show cC X.prog X.w H s.heap a (.rR ob (.lst xs)) from I.hok a _ ea);exact PySem.W.kia_one PySem.W.kitx_list I.mH ⟨_,h1,rfl⟩ e (fun z=>nomatch z) h
 | @tup a xs ea=>
  cases(show u=Value.ref a from rx);obtain⟨_,_,_,p⟩:=(show cC X.prog X.w H s.heap a (.tup xs) from I.hok a _ ea);obtain⟨o,h1,h2,_⟩:=p;exact PySem.W.kia_one PySem.W.kitx_tuple I.mH ⟨o,h1,h2⟩ e (fun z=>nomatch z) h
 | @dK a kvs ea=>
  cases(show u=Value.ref a from rx);obtain⟨_,_,vs,_,p⟩:=(show cC X.prog X.w H s.heap a (.dK kvs) from I.hok a _ ea);obtain⟨o,es,ep,h1,h2,_⟩:=p;exact PySem.W.kia_one PySem.W.kitx_dict I.mH ⟨o,h1,h2.1⟩ e (fun z=>nomatch z) h
 | @dT a kvs ea=>
  cases(show u=Value.ref a from rx);obtain⟨_,_,xs,_,o,es,ep,h1,h2,_⟩:=(show cC X.prog X.w H s.heap a (.dT kvs) from I.hok a _ ea);exact PySem.W.kia_one PySem.W.kitx_dict I.mH ⟨o,h1,h2.1⟩ e (fun z=>nomatch z) h
 | @ins a C dx fs ea cl ha hn htk hm=>
  cases(show u=Value.ref a from rx);obtain⟨mA,O,_⟩:=q_ I.hok ea;obtain⟨od,J,_⟩:=O.look;exact PySem.W.kia_one (PySem.W.kitx_own (cl.get _) cl.hd ha hn htk hm) I.mH J e (fun z=>nomatch z) h
end
structure fU (k:Nat) (A:Around):Prop where
 hd:A.handled=none
 dp:A.depth+3*k+5<recursionLimit
 un:A.units+16*k+200<cLine
 gd:A.guards=some []
theorem fU.mono {j k:Nat} {A:Around} (r:fU k A) (h:j<=k):fU j A:=⟨r.hd,by have:=r.dp; omega,by have:=r.un; omega,r.gd⟩
theorem fU.deeper {k:Nat} {A:Around} (r:fU (k+1) A) (env:Env):fU k (A.deeper env):=
 ⟨r.hd,by have:=r.dp; show A.depth+1+3*k+5<_; omega,by have:=r.un; show A.units+3+16*k+200<_; omega,by first | exact r.gd | (simpa[Around.deeper,Around.under,Code.guards,Code.isGuard,guardIds,pushGuards] using r.gd)⟩
theorem Hm {A:Around} {C:Addr} {us:List Value} {kw:List (Str×Value)}:(A.under (.builtin "type.__call__" ⟨.ref C::us,kw⟩)).depth=A.depth+1:=by
 first | rfl | simp[Around.under,Code.weight,Code.isCreation,Code.isGuard,Code.isCaller,Code.frames,Code.isFrame,guardIds]
theorem Hl {A:Around} {C:Addr} {us:List Value} {kw:List (Str×Value)}:(A.under (.builtin "type.__call__" ⟨.ref C::us,kw⟩)).units=A.units+1:=by
 first | rfl | simp[Around.under,Code.cUnits,Code.frames,Code.isFrame]
theorem fU.make {k:Nat} {A:Around} (r:fU (k+1) A) (C:Addr) (us:List Value) (kw:List (Str×Value)):fU k (A.under (.builtin "type.__call__" ⟨.ref C::us,kw⟩)):=
 ⟨r.hd,by have:=r.dp; rw[Hm]; omega,by have:=r.un; rw[Hl]; omega,by first | exact r.gd | (simpa[Around.deeper,Around.under,Code.guards,Code.isGuard,guardIds,pushGuards] using r.gd)⟩
theorem fU.depth {k:Nat} {A:Around} (r:fU k A):A.depth<recursionLimit:=by have:=r.dp; omega
theorem fU.units {k:Nat} {A:Around} (r:fU k A):A.units+64<cLine:=by have:=r.un; omega
def CV:TA:=fun _ H Q=>Q [] H
def qH (ta:TE) (tr:TA):TA:=fun σ H Q=>ta σ H fun x H1=>tr σ H1 fun xs H2=>Q (x::xs) H2
section
variable {X:Cx} {e:Expr} {es:List Expr} {te:TE} {t:TA} {pos:Pos}
theorem ak:PA X [] CV:=.mk <| fun _ _ _ _ H Q I h=>Calls.spliced_nil ⟨[],H,I,.nil,h⟩
theorem R9 (ha:PE X e te) (hr:PA X es t) (hs:starEach (e::es) X.env=(false,eval e X.env)::starEach es X.env:=by rfl):PA X (e::es) (qH te t):=by
 refine .mk ?_;intro pos pins s σ H Q I h;rw[hs];show wpAny _ _ (spliced ((false,eval e X.env)::backTo pos (starEach es X.env))) _ _ s;refine Calls.spliced_cons (cI (ha pins s σ H _ I h) fun u s1 qx=>?_);obtain⟨x,H1,I1,r1,q1⟩:=qx;exact cI (hr pos pins s1 σ H1 _ I1 q1) fun us s2 ⟨xs,H2,I2,r2,q2⟩=>⟨x::xs,H2,I2,.cons r1 r2,q2⟩
def Vw (t:TA):TE:=fun σ H Q=>t σ H fun xs H1=>xs.length<=sizeLine/\∀p,H1 p=none->Q (.ref p) (upd H1 p (.tup xs))
def Y_ (t:TA):TE:=fun σ H Q=>t σ H fun xs H1=>xs.length<=sizeLine/\∀p,H1 p=none->Q (.ref p) (upd H1 p (.lst xs))
theorem OJ {x1} (h:PA X es t):PE X (.Tuple es x1 pos) (Vw t):=by
 refine .mk ?_;intro pins s σ H Q I hq;refine wpAny_Tuple_spliced (cI (h pos pins s σ H _ I hq) fun us s1 ⟨xs,H1,I1,r,z,q⟩=>⟨by rw[<- r.length]; exact z,?_⟩)
 have hf:H1 s1.heap.objs.size=none:=I1.hok.fresh (bL _);refine⟨.ref s1.heap.objs.size,upd H1 s1.heap.objs.size (.tup xs),I1.laid (t':=s1.toks) (fun b u e=>dW _ e) (bL _) ?_,rfl,q _ hf⟩;exact⟨z,us,r,⟨_,dw _ rfl,rfl,_,rfl⟩⟩
theorem O2 (h:PA X es t):PE X (.List es pos) (Y_ t):=by
 refine .mk ?_;intro pins s σ H Q I hq;refine wpAny_List_spliced (cI (h pos pins s σ H _ I hq) fun us s1 ⟨xs,H1,I1,r,z,q⟩=>⟨by rw[<- r.length]; exact z,?_⟩)
 have hf:H1 s1.heap.objs.size=none:=I1.hok.fresh (bL _);refine⟨.ref s1.heap.objs.size,upd H1 s1.heap.objs.size (.lst xs),I1.laid (t':=s1.toks) (fun b u e=>dW _ e) (bL _) ?_,rfl,q _ hf⟩;exact⟨z,us,0,r,dw _ rfl⟩
end
abbrev Sp:=List V->Hp->VK->XK->Prop
abbrev Ka:=List Env->Hp->Shared->XK->Value->Shared->Prop
structure Il (P:Program) (w:World) (K:PySem.W.Frag) (mg:Str->Option Value) (base:Heap) (A:Around) (outer:List Env) (s:Shared) (H:Hp):Prop where
 frames:A.frames=some outer
 mod:Mod K mg base
 bs:∀b o,base.get? b=some o->s.heap.get? b=some o/\H b=none
 My:base.objs.size<=s.heap.objs.size
 uK:s.heap.FunFrames base outer
 Xf:∀b∈frs outer,H b=none
 hok:nY P w H s.heap
 bare:AllBare s.gens
def CE (outer:List Env) (P:Program) (w:World) (H:Hp) (s:Shared) (Q:VK) (u:Value) (s':Shared):Prop:=
 ∃v H',s'.os=s.os/\AllBare s'.gens/\Un (frs outer) [] H H' s.heap s'.heap/\nY P w H' s'.heap/\RelV v u/\Q v H'
def CR (CX:Ka) (outer:List Env) (P:Program) (w:World) (H:Hp) (s:Shared) (Q:VK) (E:XK) (r:Result) (s':Shared):Prop:=
 match r with
 | .ok (.ret u)=>CE outer P w H s Q u s'
 | .ok _=>False
 | .error e=>CX outer H s E e s'
structure bJ (P:Program) (w:World) (K:PySem.W.Frag) (mg:Str->Option Value) (base:Heap) (CX:Ka) (k:Nat) (f:Addr) (fd:FuncData) (ps:List Str) (sp:Sp):Prop where
 len:∀vs H Q E,sp vs H Q E->vs.length=ps.length
 run:∀(A:Around) (outer:List Env) (s:Shared) (H:Hp) (args:Args) (us:List Value) (vs:List V) (Q:VK) (E:XK),fU k A->Il P w K mg base A outer s H->BindsTo s fd args (ps.zip us)->Vals vs us->sp vs H Q E ->
  codeAny (model P w) A (.call (.ref f) args) (CR CX outer P w H s Q E) s
theorem bJ.mono {P:Program} {w:World} {K:PySem.W.Frag} {mg:Str->Option Value} {base:Heap} {CX:Ka} {j k:Nat} {f:Addr} {fd:FuncData} {ps:List Str} {sp:Sp} (F:bJ P w K mg base CX j f fd ps sp) (h:j<=k) :
  bJ P w K mg base CX k f fd ps sp:=⟨F.len,fun A outer s H args us vs Q E hr=>F.run A outer s H args us vs Q E (hr.mono h)⟩
theorem Il.make {P:Program} {w:World} {K:PySem.W.Frag} {mg:Str->Option Value} {base:Heap} {A:Around} {outer:List Env} {s:Shared} {H:Hp} (e:Il P w K mg base A outer s H) (C:Addr) (us:List Value) (kw:List (Str×Value)) :
  Il P w K mg base (A.under (.builtin "type.__call__" ⟨.ref C::us,kw⟩)) outer s H:=⟨by first | exact e.frames | (simpa[Around.under,Code.envs,Code.isFrame,pushEnvs] using e.frames),e.mod,e.bs,e.My,e.uK,e.Xf,e.hok,e.bare⟩
section
variable {X:Cx} {pins:List (Addr×Obj)} {σ:St} {H:Hp} {s s':Shared}
theorem Inv.env0 (I:Inv X pins σ H s):Il X.prog X.w X.K X.mg X.base X.A X.stack s H:=
 ⟨I.ok.frames,I.ok.mod,I.bs,j4 I.ok.My I.sz,I.stack,I.IW,I.hok,I.bare⟩
theorem Inv.after {Q:VK} {u:Value} (I:Inv X pins σ H s) (h:CE X.stack X.prog X.w H s Q u s'):EP X pins σ Q u s':=by
 obtain⟨v,H',os,bare,un,hok,r,q⟩:=h;obtain⟨hh,g,d,t,os'⟩:=s';obtain rfl:os'=s.os:=os;exact⟨v,H',I.call (h':=hh) (g':=g) (d':=d) (t':=t) (ch:=[]) un hok bare (fun b z=>absurd z (by simp)),r,q⟩
end
def mQ (sp:Sp) (uL:List V) (E:XK) (t:TA):TE:=fun σ H Q=>t σ H fun vs H1=>sp (vs++uL) H1 Q E
def u_ (C:Addr) (m:Str) (sp:Sp) (uL:List V) (E:XK) (ta:TE) (t:TA):TE:=fun σ H Q=>ta σ H fun x H1=>∃a dx fs,x=.ref a/\H1 a=some (.ins C dx fs)/\fs.lookup m=none /\
 t σ H1 fun vs H2=>sp (x::(vs++uL)) H2 Q E
def Np (C:Addr) (sp:Sp) (uL:List V) (E:XK) (t:TA):TE:=fun σ H Q=>t σ H fun vs H1=>∀x dx,H1 x=none->H1 dx=none->dx≠x ->
 sp (.ref x::(vs++uL)) (upd (upd H1 dx (.own x)) x (.ins C dx [])) (fun v H2=>v=.non/\Q (.ref x) H2) E
def Binds (K:PySem.W.Frag) (fd:FuncData) (ps:List Str) (ds:List Value):Prop:=
 ∀(s:Shared) (us:List Value),K.In s.heap->(us++ds).length=ps.length->BindsTo s fd ⟨us,[]⟩ (ps.zip (us++ds))
theorem Binds.all {K:PySem.W.Frag} {fd:FuncData} {ps:List Str} (h:∀us:List Value,us.length=ps.length->bindArgs fd ⟨us,[]⟩=pure (ps.zip us)):Binds K fd ps []:=fun s us _ hl=>by
 rw[Di] at hl ⊢;exact .of_eq (h us hl)
def Passes (CX:Ka) (X:Cx) (E:XK):Prop:=∀(pins:List (Addr×Obj)) (σ:St) (H:Hp) (s:Shared) (e:Value) (s':Shared),Inv X pins σ H s->CX X.stack H s E e s'->X.xe e s'
section
variable {X:Cx} {CX:Ka} {k:Nat} {f C:Addr} {fd:FuncData} {ps:List Str} {sp:Sp} {uL:List V} {ds:List Value} {E:XK} {x m:Str} {p pos apos:Pos} {e o:Expr} {es:List Expr} {ta:TE} {t:TA}
theorem Gp {pins:List (Addr×Obj)} {σ:St} {H:Hp} {s:Shared} {Q:VK} {us:List Value} {vs:List V} (F:bJ X.prog X.w X.K X.mg X.base CX k f fd ps sp) (hr:fU k X.A) (hb:Binds X.K fd ps ds) (hd:Vals uL ds) (hx:Passes CX X E)
  (I:Inv X pins σ H s) (r:Vals vs us) (h:sp (vs++uL) H Q E):wpAny (model X.prog X.w) X.A (call (.ref f) us) (EP X pins σ Q) X.xe s:=by
 have r2:Vals (vs++uL) (us++ds):=r.append hd;have hl:(us++ds).length=ps.length:=by rw[<- r2.length]; exact F.len _ _ _ _ h
 refine wpAny_call (codeAny_mono (F.run X.A X.stack s H ⟨us,[]⟩ (us++ds) (vs++uL) Q E hr I.env0 (hb s us I.mH hl) r2 h) fun r s' hq=>?_);cases r with
 | error e=>exact hx pins σ H s e s' I hq
 | ok fl=>
  cases fl with
  | ret u=>exact I.after hq
  | next=>exact False.elim hq
  | brk=>exact False.elim hq
  | cont=>exact False.elim hq
theorem Jv (F:bJ X.prog X.w X.K X.mg X.base CX k f fd ps sp) (hr:fU k X.A) (hg:Gl X x) (hm:X.mg x=some (.ref f)) (hk:PySem.W.keepIn X.K (.ref f)=true) (hb:Binds X.K fd ps ds) (hd:Vals uL ds) (hx:Passes CX X E)
  (ha:PA X (e::es) t) (hdb:(x==("__debug__" : Str))=false:=by decide) (he:starEach (e::es) X.env=(false,eval e X.env)::starEach es X.env:=by rfl) (hpl:(backTo pos (starEach es X.env)).any (·.1)=false:=by rfl) :
  PE X (.Call (.Name x p) (e::es) [] pos) (mQ sp uL E t):=by
 refine .mk ?_;intro pins s σ H Q I h;refine uy (Bp I hg hm ?_ hdb);refine PySem.W.callWith_K (h₀:=X.base) I.ok.mod.U4 hk (cI (ha pos pins s σ H _ I h) fun us s1 ⟨vs,H1,I1,r,q⟩=>⟨I1.mH,?_⟩) he hpl;exact Gp F hr hb hd hx I1 r q
theorem R4 {pl:Sem Bool} (he:PE X o ta) (c:Fq X.K C) (hm:Meth X.K C m f) (F:bJ X.prog X.w X.K X.mg X.base CX k f fd ps sp) (hr:fU k X.A) (hb:Binds X.K fd ps ds) (hd:Vals uL ds) (hx:Passes CX X E) (ha:PA X (e::es) t)
  (hst:starEach (e::es) X.env=(false,eval e X.env)::starEach es X.env:=by rfl) (hpl:(backTo pos (starEach es X.env)).any (·.1)=false:=by rfl)
  (ht:eval (.Call (.Attribute o m apos) (e::es) [] pos) X.env=(do
   let ov <- eval o X.env
   standAt apos.atName
   let (f,first) <- holding [ov] (getMethod ov m pl)
   callWith pos f first (backTo pos (starEach (e::es) X.env)) (backToKw pos (keywordEach [] X.env))):=by rfl) :
  PE X (.Call (.Attribute o m apos) (e::es) [] pos) (u_ C m sp uL E ta t):=by
 refine .mk ?_;intro pins s σ H Q I h;refine PySem.W.methodCall_KW (pl:=pl) (cI (he pins s σ H _ I h) fun u s1 ⟨x,H1,I1,rx,a,dx,fs,ex,ea,l,q⟩=>?_) ht;subst ex;obtain rfl:u=Value.ref a:=rx;refine wV I1 ea c hm l ?_;refine PySem.W.callWith_K (first:=[.ref a]) (h₀:=X.base) I.ok.mod.U4 hm.kp (cI (ha pos pins s1 σ H1 _ I1 q) fun us s2 ⟨vs,H2,I2,r,q2⟩=>⟨I2.mH,?_⟩) hst hpl
 exact Gp (us:=.ref a::us) (vs:=.ref a::vs) F hr hb hd hx I2 (.cons rfl r) q2
theorem O1 {pl:Sem Bool} (he:PE X o ta) (c:Fq X.K C) (hm:Meth X.K C m f) (F:bJ X.prog X.w X.K X.mg X.base CX k f fd ps sp) (hr:fU k X.A) (hb:Binds X.K fd ps ds) (hd:Vals uL ds) (hx:Passes CX X E)
  (ht:eval (.Call (.Attribute o m apos) [] [] pos) X.env=(do
   let ov <- eval o X.env
   standAt apos.atName
   let (f,first) <- holding [ov] (getMethod ov m pl)
   callWith pos f first (backTo pos (starEach [] X.env)) (backToKw pos (keywordEach [] X.env))):=by rfl) :
  PE X (.Call (.Attribute o m apos) [] [] pos) (u_ C m sp uL E ta CV):=by
 refine .mk ?_;intro pins s σ H Q I h;refine PySem.W.methodCall_KW (pl:=pl) (cI (he pins s σ H _ I h) fun u s1 ⟨x,H1,I1,rx,a,dx,fs,ex,ea,l,q⟩=>?_) ht;subst ex;obtain rfl:u=Value.ref a:=rx;refine wV I1 ea c hm l ?_;exact PySem.W.callWith_K0 (first:=[.ref a]) I1.mH hm.kp (Gp (us:=[.ref a]) (vs:=[.ref a]) F hr hb hd hx I1 (.cons rfl .nil) q)
structure Mk (K:PySem.W.Frag) (C f:Addr):Prop where
 makes:PySem.W.makesIn K C=true
 init:PySem.W.findIn K (.ref C) "__init__" = some (some (.ref f))
 fn:PySem.W.isFn K (.ref f)=true
 kp:PySem.W.keepIn K (.ref C)=true
theorem Oc {pins:List (Addr×Obj)} {σ:St} {H:Hp} {s:Shared} {Q:VK} {us:List Value} {vs:List V} (M:Mk X.K C f) (F:bJ X.prog X.w X.K X.mg X.base CX k f fd ps sp) (hr:fU (k+1) X.A) (hb:Binds X.K fd ps ds) (hd:Vals uL ds)
  (hx:Passes CX X E) (I:Inv X pins σ H s) (r:Vals vs us)
  (h:∀x dx,H x=none->H dx=none->dx≠x->sp (.ref x::(vs++uL)) (upd (upd H dx (.own x)) x (.ins C dx [])) (fun v H2=>v=.non/\Q (.ref x) H2) E) :
  wpAny (model X.prog X.w) X.A (call (.ref C) us) (EP X pins σ Q) X.xe s:=by
 have hq:=h (s.heap.objs.size+1) s.heap.objs.size (I.hok.fresh (yR _)) (I.hok.fresh (bL _)) (fP (Dk _));have I2:=Inv.made (C:=C) I;have r2:Vals (V.ref (s.heap.objs.size+1)::(vs++uL)) (Value.ref (s.heap.objs.size+1)::(us++ds)):=.cons rfl (r.append hd)
 have hl:(Value.ref (s.heap.objs.size+1)::us++ds).length=ps.length:=by
  have e:=r2.length;rw[F.len _ _ _ _ hq] at e;exact e.symm
 refine wpAny_call (Ph (f:=f) I.mH M.makes M.init (beq_iff_eq.mp M.fn) (codeAny_mono (F.run _ X.stack _ _ ⟨Value.ref (s.heap.objs.size+1)::us,[]⟩ (Value.ref (s.heap.objs.size+1)::(us++ds)) _ _ E (hr.make C us [])
  (I2.env0.make C us []) (hb _ (Value.ref (s.heap.objs.size+1)::us) I2.mH hl) r2 hq) fun r s' hq'=>?_))
 cases r with
 | error e=>exact hx pins σ _ _ e s' I2 hq'
 | ok fl=>
  cases fl with
  | ret u=>
   obtain⟨v,H',I3,rv,ev,q3⟩:=I2.after hq';subst ev;exact⟨rv,⟨V.ref (s.heap.objs.size+1),H',I3,rfl,q3⟩⟩
  | next=>exact False.elim hq'
  | brk=>exact False.elim hq'
  | cont=>exact False.elim hq'
theorem R6 (M:Mk X.K C f) (F:bJ X.prog X.w X.K X.mg X.base CX k f fd ps sp) (hr:fU (k+1) X.A) (hg:Gl X x) (hm:X.mg x=some (.ref C)) (hb:Binds X.K fd ps ds) (hd:Vals uL ds) (hx:Passes CX X E)
  (ha:PA X (e::es) t) (hdb:(x==("__debug__" : Str))=false:=by decide) (he:starEach (e::es) X.env=(false,eval e X.env)::starEach es X.env:=by rfl) (hpl:(backTo pos (starEach es X.env)).any (·.1)=false:=by rfl) :
  PE X (.Call (.Name x p) (e::es) [] pos) (Np C sp uL E t):=by
 refine .mk ?_;intro pins s σ H Q I h;refine uy (Bp I hg hm ?_ hdb);refine PySem.W.callWith_K (h₀:=X.base) I.ok.mod.U4 M.kp (cI (ha pos pins s σ H _ I h) fun us s1 ⟨vs,H1,I1,r,q⟩=>⟨I1.mH,?_⟩) he hpl;exact Oc M F hr hb hd hx I1 r q
end
def PK (X:Cx) (kws:List Keyword) (t:TA):Prop:=
 ∀(pos:Pos) (pins:List (Addr×Obj)) (s:Shared) (σ:St) (H:Hp) (Q:List V->Hp->Prop),Inv X pins σ H s->t σ H Q->wpAny (model X.prog X.w) X.A (evalAll ((backToKw pos (keywordEach kws X.env)).map (·.2))) (AP X pins σ Q) X.xe s
section
variable {X:Cx} {CX:Ka} {k:Nat} {f C:Addr} {fd:FuncData} {ps ks:List Str} {sp:Sp} {E:XK} {x m:Str} {p pos apos SQ:Pos} {e o:Expr} {es:List Expr} {kws:List Keyword} {te ta:TE} {t tk:TA} {nm:Option Str}
theorem V_:PK X [] CV:=fun _ _ _ _ H Q I h=>wpAny_evalAll_nil ⟨[],H,I,.nil,h⟩
theorem RV (ha:PE X e te) (hr:PK X kws t):PK X (⟨nm,e,SQ⟩::kws) (qH te t):=by
 intro pos pins s σ H Q I h;show wpAny _ _ (evalAll ((do let v <- eval e X.env; standAt pos; pure v)::(backToKw pos (keywordEach kws X.env)).map (·.2))) _ _ s
 refine wpAny_evalAll_cons (aW (cI (ha pins s σ H _ I h) fun u s1 ⟨x,H1,I1,r1,q1⟩=>aW (Ai (cF ?_))));exact cI (hr pos pins s1 σ H1 _ I1 q1) fun us s2 ⟨xs,H2,I2,r2,q2⟩=>⟨x::xs,H2,I2,.cons r1 r2,q2⟩
structure aed (K:PySem.W.Frag) (fd:FuncData) (ps ks:List Str) (g:List Value->List Value->List Value) (gV:List V->List V->List V):Prop where
 to:∀(s:Shared) (us ws:List Value),K.In s.heap->(g us ws).length=ps.length->BindsTo s fd ⟨us,ks.zip ws⟩ (ps.zip (g us ws))
 rel:∀{vs:List V} {us:List Value} {zs:List V} {ws:List Value},Vals vs us->Vals zs ws->Vals (gV vs zs) (g us ws)
variable {g:List Value->List Value->List Value} {gV:List V->List V->List V}
end
structure aV (N P:List Str) (sc:Scope):Prop where
 kind:sc.kind=.function
 co:sc.isCoroutine=false
 gen:sc.isGenerator=false
 nd:N.Nodup
 pre:N.take P.length=P
 par:∀x∈P,sc.names.lookup x=some .local\/sc.names.lookup x=some .cell
 Wq:∀y∈sc.names,y.2≠.free
theorem zU {kindOf:Str->Option NameKind} {x:Str}:∀{binds:List (Str×Value)} {m:Str->Option Value},(∀v,(x,v)∉binds)->bindL kindOf binds m x=m x
 | [],_,_=>rfl
 | (n,v)::r,m,h=>by
  unfold bindL;rw[zU fun w hw=>h w (g8 _ hw)];split
  ·have:x≠n:=by rintro rfl; exact h v iV
   simp[this]
  ·rfl
theorem zW {kindOf:Str->Option NameKind} {x:Str}:∀{binds:List (Str×Value)} {m:Str->Option Value},(∀v,(x,v)∉binds)->bindC kindOf binds m x=m x
 | [],_,_=>rfl
 | (n,v)::r,m,h=>by
  unfold bindC;rw[zW fun w hw=>h w (g8 _ hw)];split
  ·rfl
  ·have:x≠n:=by rintro rfl; exact h v iV
   simp[this]
theorem zV {kindOf:Str->Option NameKind} {x:Str} {v:Value}:∀{P:List Str} {vs:List Value} {i:Nat} {m:Str->Option Value},P.Nodup->P[i]?=some x->vs[i]?=some v->kindOf x=some .local ->
  bindL kindOf (P.zip vs) m x=some v
 | [],_,_,_,_,h,_,_=>by simp at h
 | _::_,[],_,_,_,_,h,_=>by simp at h
 | p::P,w::vs,0,m,nd,h1,h2,hk=>by
  simp at h1 h2; subst h1; subst h2;show bindL kindOf ((p,w)::P.zip vs) m p=_;unfold bindL;rw[zU fun v hv=>(jm.mp nd).1 (DP hv).1,bu hk];simp
 | p::P,w::vs,i+1,m,nd,h1,h2,hk=>by
  show bindL kindOf ((p,w)::P.zip vs) m x=_;unfold bindL;exact zV (i:=i) (jm.mp nd).2 (by simpa using h1) (by simpa using h2) hk
theorem zX {kindOf:Str->Option NameKind} {x:Str} {v:Value}:∀{P:List Str} {vs:List Value} {i:Nat} {m:Str->Option Value},P.Nodup->P[i]?=some x->vs[i]?=some v->kindOf x≠some .local ->
  bindC kindOf (P.zip vs) m x=some v
 | [],_,_,_,_,h,_,_=>by simp at h
 | _::_,[],_,_,_,_,h,_=>by simp at h
 | p::P,w::vs,0,m,nd,h1,h2,hk=>by
  simp at h1 h2; subst h1; subst h2;show bindC kindOf ((p,w)::P.zip vs) m p=_;unfold bindC;rw[zW fun v hv=>(jm.mp nd).1 (DP hv).1,aZ hk];simp
 | p::P,w::vs,i+1,m,nd,h1,h2,hk=>by
  show bindC kindOf ((p,w)::P.zip vs) m x=_;unfold bindC;exact zX (i:=i) (jm.mp nd).2 (by simpa using h1) (by simpa using h2) hk
def start (N:List Str) (vs:List V):St:=vs.map some++List.replicate (N.length-vs.length) none
def xf (CX:Ka) (P:Program) (w:World) (K:PySem.W.Frag) (mg:Str->Option Value) (base:Heap) (N:List Str) (qual:Str) (scope:Scope) (f:Addr) (cd:Value) (A:Around) (outer:List Env) (s:Shared) (H:Hp) (E:XK):Cx where
 prog:=P
 w:=w
 K:=K
 mg:=mg
 base:=base
 A:=A.deeper (envOfC qual scope s.heap.objs.size f cd)
 N:=N
 s₀:=s
 H₀:=H
 env:=envOfC qual scope s.heap.objs.size f cd
 outer:=outer
 stack:=envOfC qual scope s.heap.objs.size f cd::outer
 ex:=[]
 calm:=true
 fn:=fun _=>true
 pn:=[]
 xe:=fun e s'=>wpAny (model P w) (A.deeper (envOfC qual scope s.heap.objs.size f cd)) (leaving (envOfC qual scope s.heap.objs.size f cd) e) (fun _ s''=>CX outer H s E e s'') (fun e' s''=>CX outer H s E e' s'') s'
theorem Ex {sc:Scope} {n:Nat} {x:Str} (h:sc.names.lookup x=some .cell):∃c,(cellsFrom n sc.names []).lookup x=some c:=by
 have q:=PySem.W.cellsFrom_some sc.names n [] (.inl h);exact Oo.mp q
theorem zg {CX:Ka} {P:Program} {w:World} {K:PySem.W.Frag} {mg:Str->Option Value} {base:Heap} {N ps:List Str} {qual:Str} {scope:Scope} {f:Addr} {cd:Value} {A:Around} {outer:List Env} {s s1:Shared} {H:Hp} {E:XK} {us:List Value} {vs:List V}
  (S:aV N ps scope) (hd:A.handled=none) (e0:Il P w K mg base A outer s H) (hl:vs.length=ps.length) (r:Vals vs us)
  (x:InCallC s s.heap.objs.size (bindL (envOfC qual scope s.heap.objs.size f cd).kindOf (ps.zip us) fun _=>none) (cellsFrom (s.heap.objs.size+1) scope.names []) (bindC (envOfC qual scope s.heap.objs.size f cd).kindOf (ps.zip us) fun _=>none) s1) :
  Inv (xf CX P w K mg base N qual scope f cd A outer s H E) [] (start N vs) H s1:=by
 have hpl:ps.length<=N.length:=by have:=nq List.length S.pre; rw[mD] at this; omega
 obtain⟨h1,tk,rfl,hk⟩:=x.done;have Z6:∀b:Addr,b∉(xf CX P w K mg base N qual scope f cd A outer s H E).ex:=fun b z=>absurd (show b∈([]:List Addr) from z) (by simp)
 refine⟨⟨e0.mod,S.kind,rfl,rfl,bL _,fun y z c h1 h2=>?_,fun y hy=>?_,fun y c _ h=>?_,fun _=>hd,Around.frames_deeper e0.frames,.inr ⟨rfl,rfl⟩,fun b z=>absurd z (Z6 b),e0.bs,e0.My,fun b _ _=>Z6 b,fun b z=>absurd z (Z6 b),e0.uK,e0.Xf⟩,
  rfl,e0.bare,Un.kept hk,⟨_,x.toInCall.ns,fun i y v h1 h2 h3=>?_⟩,fun y c h=>⟨_,x.cell y c h⟩,e0.hok.fresh (bL _),fun y c h=>?_,fun p hp=>absurd (show p∈([]:List (Addr×Obj)) from hp) (by simp),e0.hok.kept hk,?_⟩
 ·exact name_of_addr x.apart (PySem.mem_of_lookup h1) (PySem.mem_of_lookup h2)
 ·have hy:scope.names.lookup y=some .cell\/scope.names.lookup y=some .free:=hy;rcases hy with hy | hy
  ·exact Ex hy
  ·exact absurd rfl (S.Wq _ (PySem.mem_of_lookup hy))
 ·exact lK (x.above y c (PySem.mem_of_lookup h))
 ·have hi:i<vs.length:=by
   unfold start at h2;by_cases hi:i<vs.length
   ·exact hi
   ·rw[Ds (by simpa using hi)] at h2
    rw[Jq] at h2;split at h2 <;> cases h2
  have ha:vs[i]?=some v:=by
   unfold start at h2;rw[KQ (by simpa using hi),cJ] at h2
   cases e:vs[i]? with
   | none=>rw[e] at h2; cases h2
   | some a=>rw[e] at h2; cases h2; rfl
  obtain⟨u,hu,rv⟩:=r.get ha
  have hp:ps[i]?=some y:=by
   rw[<- S.pre,List.getElem?_take_of_lt (by omega)]; exact h1
  have ndP:ps.Nodup:=by rw[<- S.pre]; exact S.nd.sublist (List.take_sublist _ _)
  refine⟨u,rv,?_⟩;rcases S.par y (dM hp) with k | k
  ·exact .inl ⟨k,zV ndP hp hu k⟩
  ·obtain⟨c,e⟩:=Ex (n:=s.heap.objs.size+1) k;refine .inr ⟨.inl k,c,e,?_⟩;have q:=x.cell y c e;rw[zX ndP hp hu (by show scope.names.lookup y≠_; rw[k]; decide)] at q
   exact q
 ·exact e0.hok.fresh (lK (x.above y c (PySem.mem_of_lookup h)))
 ·unfold start;show _=N.length;rw[cN,bZ,tH];omega
theorem U8 {CX:Ka} {P:Program} {w:World} {K:PySem.W.Frag} {mg:Str->Option Value} {base:Heap} {k:Nat} {f:Addr} {name qual:Str} {params:Arguments} {body:List Stmt} {scope:Scope} {dV kV doc pm cdv ct oc:Value} {an od:Option Addr}
  {osl:Array (Option Value)} {N ps:List Str} {sp:Sp} (lk:K.lookup f=some ⟨oc,od,.func (PySem.W.fnOf name qual params body scope dV kV doc pm an cdv ct),osl⟩) (hcd:PySem.W.codeIn K cdv qual=true) (S:aV N ps scope)
  (len:∀vs H Q E,sp vs H Q E->vs.length=ps.length)
  (hbody:∀(A:Around) (outer:List Env) (s:Shared) (H:Hp) (vs:List V) (Q:VK) (E:XK),fU k (A.deeper (envOfC qual scope s.heap.objs.size f cdv))->sp vs H Q E ->
   ∃t,Fo (xf CX P w K mg base N qual scope f cdv A outer s H E) body t/\t { nx:=fun _ H'=>Q .non H',rt:=Q } (start N vs) H) :
  bJ P w K mg base CX (k+1) f (PySem.W.fnOf name qual params body scope dV kV doc pm an cdv ct) ps sp:=by
 refine⟨len,fun A outer s H args us vs Q E hr e0 hb r hsp=>?_⟩;have hl:=len _ _ _ _ hsp;have KX:K.In s.heap:=e0.mod.U4.keeps fun b o e=>(e0.bs b o e).1;have lim:s.heap.NoLimit:=e0.mod.nolimit.keeps fun b o e=>(e0.bs b o e).1
 have hkind:∀y∈ps.zip us,scope.names.lookup y.1=some .local\/(scope.names.lookup y.1=some .cell/\((cellsFrom (s.heap.objs.size+1) scope.names []).lookup y.1).isSome=true):=fun⟨n,v⟩ hy=>by
  rcases S.par n (DP hy).1 with q | q
  ·exact .inl q
  ·exact .inr ⟨q,PySem.W.cellsFrom_some _ _ _ (.inl q)⟩
 refine codeAny_call_function hr.depth (KX _ _ lk) rfl S.co S.gen rfl (PySem.W.codeRec_of KX hcd) (hb _ _ _ _ ?_);refine wpAny_newFunctionEnv_cells S.kind hkind fun env he s1 x=>?_;subst he;refine⟨lim.keeps x.toInCall.keep,codeAny_func ?_⟩;obtain⟨t,ht,hq⟩:=hbody A outer s H vs Q E (hr.deeper _) hsp;have I:Inv (xf CX P w K mg base N qual scope f cdv A outer s H E) [] (start N vs) H s1:=zg S hr.hd e0 hl r x;refine oU (ht [] s1 (start N vs) H _ I hq) (fun fl s' hs=>?_) fun e s' hs=>hs
 have fin:∀{σ':St} {H':Hp} {v:V} {u:Value},Inv (xf CX P w K mg base N qual scope f cdv A outer s H E) [] σ' H' s'->RelV v u->Q v H'->CE outer P w H s Q u s':=
  fun {σ' H' v u} J rv q=>⟨v,H',J.os,J.bare,J.base,J.hok,rv,q⟩
 cases fl with
 | ret u=>
  obtain⟨v,σ',H',J,rv,q⟩:=hs;exact fin J rv q
 | next=>
  obtain⟨σ',H',J,q⟩:=hs;exact fin (v:=V.non) (u:=Value.none) J rfl q
 | brk=>
  obtain⟨_,_,_,q⟩:=hs;exact False.elim q
 | cont=>
  obtain⟨_,_,_,q⟩:=hs;exact False.elim q
section
variable {X:Cx} {x:Str} {p pos:Pos} {e:Expr} {es:List Expr} {t:TA} {id T:String} {r:List V->Hp->VK->Prop}
def Zb (r:List V->Hp->VK->Prop) (t:TA):TE:=fun σ H Q=>t σ H fun vs H1=>r vs H1 Q
theorem O4 (hc:cZ X (.builtin id) r) (hg:Gl X x) (hm:X.mg x=none) (hv:bootBuiltins x=some (.builtin id)) (ha:PA X (e::es) t) (hn:x ≠ "__name__" := by decide) (hdb:(x==("__debug__" : Str))=false:=by decide)
  (he:starEach (e::es) X.env=(false,eval e X.env)::starEach es X.env:=by rfl) (hpl:(backTo pos (starEach es X.env)).any (·.1)=false:=by rfl):PE X (.Call (.Name x p) (e::es) [] pos) (Zb r t):=by
 refine .mk ?_;intro pins s σ H Q I h;refine uy (iJ I hg hm hv ?_ hn hdb);exact PyProof.Rows.callWith_builtin1 (cI (ha pos pins s σ H _ I h) fun us s1 ⟨vs,H1,I1,r1,q1⟩=>hc pins s1 σ H1 vs us Q I1 r1 q1) he hpl
theorem KY (hc:cZ X (.type T) r) (hg:Gl X x) (hm:X.mg x=none) (hv:bootBuiltins x=some (.type T)) (ha:PA X (e::es) t) (hn:x ≠ "__name__" := by decide) (hdb:(x==("__debug__" : Str))=false:=by decide)
  (he:starEach (e::es) X.env=(false,eval e X.env)::starEach es X.env:=by rfl) (hpl:(backTo pos (starEach es X.env)).any (·.1)=false:=by rfl):PE X (.Call (.Name x p) (e::es) [] pos) (Zb r t):=by
 refine .mk ?_;intro pins s σ H Q I h;refine uy (iJ I hg hm hv ?_ hn hdb);exact PyProof.Rows.callWith_type1 (cI (ha pos pins s σ H _ I h) fun us s1 ⟨vs,H1,I1,r1,q1⟩=>hc pins s1 σ H1 vs us Q I1 r1 q1) he hpl
end
end L2
namespace HT
open PySem PyProof.Rows
section
open PySem.SeqAt
open PySem.AutoSeq1 (wpAny_loadPart')
open PySem.MeetsSeq PySem.MeetsSeq2 PySem.MeetsSeq3
end
section
variable {prog:Program} {w:World} {A:Around} {E:Value->Shared->Prop} {s:Shared}
theorem Tz {t b:Addr} {vs ws:List Value} {Q:Value->Shared->Prop} (ht:IsTup s.heap t vs.toArray) (hb:IsTup s.heap b ws.toArray) (hv:vs≠[])
  (h1:ws=[]->Q (.ref t) s) (h2:ws≠[]->Q (.ref s.heap.objs.size) { s with heap:=s.heap.push { cls:=.type "tuple",data:=.seq (vs++ws).toArray } })
  (hsz:vs.length+ws.length<=sizeLine):wpAny (model prog w) A (binaryOp .Add (.ref t) (.ref b)) Q E s:=by
 obtain⟨⟨cls,dd,data,sl⟩,ho,hc,n,hd⟩:=id ht;obtain⟨⟨cls2,dd2,data2,sl2⟩,ho2,hc2,n2,hd2⟩:=id hb;simp only at hc hd hc2 hd2;subst hc hd hc2 hd2;have e:vs.toArray++ws.toArray=(vs++ws).toArray:=by simp
 by_cases hw:ws=[]
 ·exact concat_meets ⟨_,ho,rfl⟩ ⟨_,ho2,rfl⟩ noFill_tuple_add seq_tuple_add PySem.F.slot_tuple_add PySem.F.entry_tuple_add (PySem.F.args_tuple_add_2 _ _)
   (tuple_addW1 t b vs.toArray ws.toArray n n2 dd dd2 sl sl2 (by simpa using hv) (by simp[hw])) ⟨ho,ho2,h1 hw⟩
 ·refine concat_meets ⟨_,ho,rfl⟩ ⟨_,ho2,rfl⟩ noFill_tuple_add seq_tuple_add PySem.F.slot_tuple_add PySem.F.entry_tuple_add (PySem.F.args_tuple_add_2 _ _)
   (tuple_addW2 t b vs.toArray ws.toArray n n2 dd dd2 sl sl2 (by simpa using hv) (by simpa using hw) (by rw[fu,fu]; exact hsz)) ⟨ho,ho2,?_⟩
  rw[e];exact h2 hw
def fX (n d:Nat):Option Int->Nat
 | none=>d
 | some v=>if v<0 then(v+(n:Int)).toNat else min v.toNat n
theorem vM (n d:Nat):fX n d none=d:=rfl
theorem Jf (n d k:Nat):fX n d (some (k:Int))=min k n:=by
 show(if(k:Int)<0 then((k:Int)+(n:Int)).toNat else min (k:Int).toNat n)=min k n
 rw[aZ (by omega),tu]
theorem VV (n d:Nat) (hd:d<=n) (o:Option Int):fX n d o<=n:=by
 cases o with
 | none=>exact hd
 | some v=>
  show(if v<0 then(v+(n:Int)).toNat else min v.toNat n)<=n
  by_cases hv:v<0
  ·rw[bu hv]; omega
  ·rw[aZ hv]; exact Nat.min_le_right _ _
theorem J4 (v:Int) (n d:Nat):(if v<0 then max (v+(n:Int)) 0 else min v (n:Int))=((fX n d (some v):Nat):Int):=by
 show(if v<0 then max (v+(n:Int)) 0 else min v (n:Int))=(((if v<0 then(v+(n:Int)).toNat else min v.toNat n):Nat):Int)
 by_cases hv:v<0
 ·simp only[bu hv]; omega
 ·simp only[aZ hv]; omega
theorem Ib (lo hi:Option Int) (n:Nat):Builtin.Slice.sliceAdjust lo hi 1 (n:Int)=(((fX n 0 lo:Nat):Int),((fX n n hi:Nat):Int)):=by
 have h1:¬((1:Int)<0):=by omega
 unfold Builtin.Slice.sliceAdjust;simp only[h1,if_false];refine Prod.ext ?_ ?_
 ·cases lo with
  | none=>rfl
  | some v=>exact J4 v n 0
 ·cases hi with
  | none=>rfl
  | some v=>exact J4 v n n
theorem GX (i j:Nat):Builtin.Slice.slicePlaces (i:Int) (j:Int) 1=j-i:=by
 unfold Builtin.Slice.slicePlaces;have h1:(1:Int)>0:=by omega
 simp only[h1,if_true,Int.ediv_one];split <;> omega
theorem vm {v:Value} {o:Option Int} {Q:Option Int->Shared->Prop} (p:IsPart v o) (h:Q o s):wpAny (model prog w) A (Builtin.Slice.slicePartIndex v) Q E s:=by
 cases p with
 | none=>exact slicePart_none h
 | int i t=>exact slicePart_int h
theorem km {sl:Addr} {vl vu:Value} {lo hi:Option Int} {n:Nat} {Q:Int×Int×Nat->Shared->Prop} (hs:s.heap.IsSliceOf sl vl vu .none) (pl:IsPart vl lo) (pu:IsPart vu hi)
  (h:Q (((fX n 0 lo:Nat):Int),1,fX n n hi-fX n 0 lo) s):wpAny (model prog w) A (Builtin.Slice.sliceApplied (.ref sl) (pure (n:Int))) Q E s:=by
 obtain⟨os,hos,hcs,hds⟩:=id hs;unfold Builtin.Slice.sliceApplied Builtin.Slice.sliceFields;refine aW (aW (iU hos hds (x:=vl) rfl (aW (iU hos hds (x:=vu) rfl (aW (iU hos hds (x:=.none) rfl (cF ?_)))))));refine aW (slicePart_none ?_);show wpAny _ _ (if((1:Int)==0)=true then _ else _) _ _ s
 rw[aZ (by decide)]
 refine aW (vm pl (aW (vm pu (aW (cF ?_)))));show wpAny _ _ (match Builtin.Slice.sliceAdjust lo hi 1 (n:Int) with | (lo,hi)=>pure (lo,(1:Int),Builtin.Slice.slicePlaces lo hi 1)) _ _ s
 rw[Ib lo hi n];show wpAny _ _ (pure (((fX n 0 lo:Nat):Int),(1:Int),Builtin.Slice.slicePlaces ((fX n 0 lo:Nat):Int) ((fX n n hi:Nat):Int) 1)) _ _ s;rw[GX];exact cF h
theorem OD (xs:Array Value) (i k:Nat):((List.range k).filterMap fun(m:Nat)=>xs[((i:Int)+(m:Int)*1).toNat]?).toArray=((xs.toList.drop i).take k).toArray:=by
 have e:(fun(m:Nat)=>xs[((i:Int)+(m:Int)*1).toNat]?)=fun m=>xs[i+m]?:=by
  funext m
  have:((i:Int)+(m:Int)*1).toNat=i+m:=by omega
  rw[this]
 rw[e];have:=pick_run xs i k;rw[List.filterMap_map] at this;have e2:((fun x=>xs[x]?)∘fun x=>i+x)=fun m=>xs[i+m]?:=rfl;rw[e2] at this;rw[this]
theorem rn {t sl:Addr} {items:Array Value} {vl vu:Value} {lo hi:Option Int} {Q:Value->Shared->Prop} (ht:IsTup s.heap t items) (hs:s.heap.IsSliceOf sl vl vu .none) (pl:IsPart vl lo) (pu:IsPart vu hi)
  (hw:¬(fX items.size 0 lo=0/\fX items.size items.size hi=items.size))
  (h:Q (.ref s.heap.objs.size) { s with heap:=s.heap.push { cls:=.type "tuple",data:=.seq ((items.toList.drop (fX items.size 0 lo)).take (fX items.size items.size hi-fX items.size 0 lo)).toArray } })
  (hsz:items.size<=sizeLine):wpAny (model prog w) A (getItem (.ref t) (.ref sl)) Q E s:=by
 have JT:sizeOk (.seq ((items.toList.drop (fX items.size 0 lo)).take (fX items.size items.size hi-fX items.size 0 lo)).toArray):=by
  show((items.toList.drop (fX items.size 0 lo)).take (fX items.size items.size hi-fX items.size 0 lo)).toArray.size<=sizeLine;rw[fu,mD,sY,Array.length_toList];omega
 have hj:fX items.size items.size hi<=items.size:=VV _ _ (bL _) hi;obtain⟨os,hos,hcs,hds⟩:=id hs;have hTs:s.TypeIs (.ref sl) "slice" := ⟨os,hos,hcs⟩;unfold getItem
 try with_reducible refine oV ?_
 first | refine aW (cF ?_) | skip
 refine aW (wpAny_sequenceKey ht.typeIs (by decide) ?_)
 refine aW (Dq (name:=Str.ofString "__getitem__") ht.typeIs PyProof.Rows.slot_tuple_getitem
  (xJ PyProof.Rows.slot_tuple_getitem ht.typeIs entry_tuple_getitem ?_ (args_tuple_getitem _ _)))
 show wpAny _ _ (Builtin.Tuple.tupleItemsOf (.ref t) >>= _) _ _ s;refine aW (tupleItemsOf_ ht ?_);refine aW (Dw hTs ?_);rw[bu (by decide)]
 refine aW (km hs pl pu ?_)
 have hno:¬((((fX items.size 0 lo:Nat):Int)==0&&(1:Int)==1&&(fX items.size items.size hi-fX items.size 0 lo)==items.size)=true):=by
  intro q;rw[Gx,Gx] at q;have q1:((fX items.size 0 lo:Nat):Int)=0:=eq_of_beq q.1.1;have q2:fX items.size items.size hi-fX items.size 0 lo=items.size:=eq_of_beq q.2;exact hw ⟨by omega,by omega⟩
 show wpAny _ _ (if(((fX items.size 0 lo:Nat):Int)==0&&(1:Int)==1&&(fX items.size items.size hi-fX items.size 0 lo)==items.size)=true then _ else _) _ _ s
 rw[aZ hno,OD]
 first
  | exact aW (m:=Builtin.Tuple.tupleExact _) (ux (cF ⟨_,rfl,cF h⟩) JT)
  | exact aW (m:=Builtin.Tuple.tupleExact _) (ux (aW (cF (cF ⟨_,rfl,cF h⟩))) JT)
  | exact aW (aW (m:=Builtin.Tuple.tupleExact _) (ux (cF (cF ⟨_,rfl,cF h⟩)) JT))
  | exact aW (aW (m:=Builtin.Tuple.tupleExact _) (ux (cF ⟨_,rfl,cF h⟩) JT))
end
end HT
namespace L2
open PySem PySem.Spec PyProof.Rows
abbrev TO:=St->Hp->(Option Int->Hp->Prop)->Prop
structure PO (X:Cx) (e:Option Expr) (t:TO):Prop where
 mk ::
 go :
 ∀(pins:List (Addr×Obj)) (s:Shared) (σ:St) (H:Hp) (Q:Option Int->Hp->Prop),Inv X pins σ H s->t σ H Q ->
  wpAny (model X.prog X.w) X.A (evalPart e X.env) (fun u s'=>∃o H',Inv X pins σ H' s'/\IsPart u o/\Q o H') X.xe s
instance {X:Cx} {e:Option Expr} {t:TO}:CoeFun (PO X e t) (fun _=>
 ∀(pins:List (Addr×Obj)) (s:Shared) (σ:St) (H:Hp) (Q:Option Int->Hp->Prop),Inv X pins σ H s->t σ H Q ->
  wpAny (model X.prog X.w) X.A (evalPart e X.env) (fun u s'=>∃o H',Inv X pins σ H' s'/\IsPart u o/\Q o H') X.xe s):=⟨PO.go⟩
def Iw:TO:=fun _ H Q=>Q none H
def Ue (t:TE):TO:=fun σ H Q=>t σ H fun x H1=>∃i,x=.int i/\Q (some i) H1
section
variable {X:Cx} {e:Expr} {te:TE} {lo hi:Option Expr} {tl th:TO} {pos p2:Pos}
theorem dZ:PO X none Iw:=by
 refine .mk ?_;intro pins s σ H Q I h;rw[evalPart_none];exact cF ⟨none,H,I,.none,h⟩
theorem dY (h:PE X e te):PO X (some e) (Ue te):=by
 refine .mk ?_;intro pins s σ H Q I hw;rw[evalPart_some];refine cI (h pins s σ H _ I hw) fun u s1 qx=>?_;obtain⟨x,H1,I1,r1,q1⟩:=qx;obtain⟨i,rfl,q⟩:=q1;obtain⟨t,rfl⟩:=r1;exact⟨some i,H1,I1,.int i t,q⟩
structure Xz (X:Cx) (r:V->Option Int->Option Int->Hp->VK->Prop):Prop where
 mk ::
 go :
 ∀(pins:List (Addr×Obj)) (s:Shared) (σ:St) (H:Hp) (x:V) (v vl vu:Value) (lo hi:Option Int) (sl:Addr) (Q:VK),Inv X pins σ H s->RelV x v->s.heap.IsSliceOf sl vl vu .none->IsPart vl lo->IsPart vu hi->r x lo hi H Q ->
  ∃T id,typeLookup (.type T) "__getitem__" = pure (some (.builtin id))/\s.TypeIs v T/\wpAny (model X.prog X.w) X.A (getItem v (.ref sl)) (EP X pins σ Q) X.xe s
instance {X:Cx} {r:V->Option Int->Option Int->Hp->VK->Prop}:CoeFun (Xz X r) (fun _=>
 ∀(pins:List (Addr×Obj)) (s:Shared) (σ:St) (H:Hp) (x:V) (v vl vu:Value) (lo hi:Option Int) (sl:Addr) (Q:VK),Inv X pins σ H s->RelV x v->s.heap.IsSliceOf sl vl vu .none->IsPart vl lo->IsPart vu hi->r x lo hi H Q ->
  ∃T id,typeLookup (.type T) "__getitem__" = pure (some (.builtin id))/\s.TypeIs v T/\wpAny (model X.prog X.w) X.A (getItem v (.ref sl)) (EP X pins σ Q) X.xe s):=⟨Xz.go⟩
def tSl (r:V->Option Int->Option Int->Hp->VK->Prop) (te:TE) (tl th:TO):TE:=fun σ H Q=>te σ H fun x H1=>tl σ H1 fun l H2=>th σ H2 fun u H3=>r x l u H3 Q
theorem cQ {r:V->Option Int->Option Int->Hp->VK->Prop} (hr:Xz X r) (he:PE X e te) (hl:PO X lo tl) (hu:PO X hi th):PE X (.Subscript e (.Slice lo hi none p2) pos) (tSl r te tl th):=by
 refine .mk ?_;intro pins s σ H Q I h;refine Subscript_ (cI (he pins s σ H _ I h) fun v s1 qx=>?_);obtain⟨x,H1,I1,r1,q1⟩:=qx;refine wpAny_Slice (cI (hl pins s1 σ H1 _ I1 q1) fun vl s2 ⟨l,H2,I2,pl,q2⟩=>cI (hu pins s2 σ H2 _ I2 q2) fun vu s3 qx=>?_);obtain⟨u,H3,I3,pu,q3⟩:=qx;rw[evalPart_none];refine cF ?_;have I4:Inv X pins σ H3 { s3 with heap:=s3.heap.push { cls:=.type "slice",data:=.fields #[vl,vu,.none] } }:=I3.kept (t':=s3.toks) fun b ob q=>dW _ q
 obtain⟨T,id,hT,ht,hg⟩:=hr pins { s3 with heap:=s3.heap.push { cls:=.type "slice",data:=.fields #[vl,vu,.none] } } σ H3 x v vl vu l u s3.heap.objs.size Q I4 r1 (Heap.IsSliceOf.new ..) pl pu q3
 show wpAny (model X.prog X.w) X.A (subscriptTail e (.Slice lo hi none p2) v (.ref s3.heap.objs.size)) (EP X pins σ Q) X.xe { s3 with heap:=s3.heap.push { cls:=.type "slice",data:=.fields #[vl,vu,.none] } }
 exact tail_any (ops:=[.ref s3.heap.objs.size,v]) ht hT hg (by with_unfolding_all rfl)
def qp (xs:List V) (lo hi:Option Int):List V:=(xs.drop (HT.fX xs.length 0 lo)).take (HT.fX xs.length xs.length hi-HT.fX xs.length 0 lo)
theorem uv (xs:List V) (lo hi:Option Int):(qp xs lo hi).length<=xs.length:=by
 unfold qp;rw[mD,sY];omega
def acw (K:PySem.W.Frag):V->Option Int->Option Int->Hp->VK->Prop:=fun x lo hi H Q=>∃a xs,x=.ref a/\e_ K H a xs /\
 ¬(HT.fX xs.length 0 lo=0/\HT.fX xs.length xs.length hi=xs.length)/\∀p,H p=none->Q (.ref p) (upd H p (.tup (qp xs lo hi)))
theorem VR:Xz X (acw X.K):=by
 refine .mk ?_;intro pins s σ H x v vl vu lo hi sl Q I rx hs pl pu h;obtain⟨a,xs,rfl,hx,hw,q⟩:=h;cases rx;obtain⟨its,r,ht,hz⟩:=I.tuple hx;have hlen:its.toArray.size=xs.length:=by rw[fu]; exact r.length.symm
 refine⟨"tuple",_,PyProof.Rows.slot_tuple_getitem.lookup,ht.typeIs,?_⟩;refine HT.rn ht hs pl pu (by rw[hlen]; exact hw) ?_ (by rw[hlen]; exact hz)
 rw[hlen];refine⟨.ref s.heap.objs.size,_,I.laid (t':=s.toks) (o:=.tup (qp xs lo hi)) (fun b ob q=>dW _ q) (bL _) ?_,rfl,q _ (I.hok.fresh (bL _))⟩;exact⟨j4 (uv xs lo hi) hz,_,(r.drop (HT.fX xs.length 0 lo)).take (HT.fX xs.length xs.length hi-HT.fX xs.length 0 lo),IsTup.new _ _⟩
def ZQ (K:PySem.W.Frag):R2:=fun x y H Q=>∃a b xs ys,x=.ref a/\y=.ref b/\e_ K H a xs/\e_ K H b ys/\xs≠[]/\xs.length+ys.length<=sizeLine /\
 (ys=[]->Q (.ref a) H)/\(ys≠[]->∀p,H p=none->Q (.ref p) (upd H p (.tup (xs++ys))))
theorem Vals.Be {xs:List V} {us:List Value} (r:Vals xs us):us=[]↔xs=[]:=by
 cases r with
 | nil=>simp
 | cons _ _=>simp
theorem Sg:mG X (binaryOp .Add) (ZQ X.K):=by
 refine .mk ?_;intro pins s σ H x y v u Q I rx ry h;obtain⟨a,b,xs,ys,rfl,rfl,ha,hb,hx,hz,q1,q2⟩:=h;cases rx;cases ry;obtain⟨its,r1,p1,_⟩:=I.tuple ha;obtain⟨its2,r2,p2,_⟩:=I.tuple hb;refine HT.Tz p1 p2 (fun z=>hx (r1.Be.mp z)) (fun z=>⟨.ref a,H,I,rfl,q1 (r2.Be.mp z)⟩) (fun z=>?_) (by rw[<- r1.length,<- r2.length]; exact hz)
 refine⟨.ref s.heap.objs.size,_,I.laid (t':=s.toks) (o:=.tup (xs++ys)) (fun b ob q=>dW _ q) (bL _) ?_,rfl,q2 (fun w=>z (r2.Be.mpr w)) _ (I.hok.fresh (bL _))⟩;exact⟨by rw[cN]; exact hz,_,r1.append r2,IsTup.new _ _⟩
end
def S9 (n:Nat) (i:Int):Option Nat:=if 0<=i then(if i<n then some i.toNat else none) else if -(n:Int)<=i then some (i+n).toNat else none
def Cm {α:Type} (xs:List α) (i:Int):Option α:=(S9 xs.length i).bind fun j=>xs[j]?
theorem JM {n:Nat} {i:Int} {j:Nat} (h:S9 n i=some j):seqIndex? i n=some j/\j<n/\-(n:Int)<=i/\i<n:=by
 unfold S9 at h;by_cases h0:0<=i
 ·rw[bu h0] at h;by_cases h1:i<n
  ·rw[bu h1] at h;have e:i.toNat=j:=Option.some.inj h;exact⟨by rw[seqIndex_of h0 h1,e],by omega,by omega,h1⟩
  ·rw[aZ h1] at h; cases h
 ·rw[aZ h0] at h;by_cases h1:-(n:Int)<=i
  ·rw[bu h1] at h;have e:(i+n).toNat=j:=Option.some.inj h;exact⟨by rw[seqIndex_neg (by omega) h1,e],by omega,h1,by omega⟩
  ·rw[aZ h1] at h; cases h
theorem Ck {α:Type} {xs:List α} {i:Int} {v:α} (h:Cm xs i=some v):∃j,seqIndex? i xs.length=some j/\xs[j]?=some v/\j<xs.length/\-(xs.length:Int)<=i/\i<xs.length:=by
 unfold Cm at h;cases e:S9 xs.length i with
 | none=>rw[e] at h; cases h
 | some j=>
  rw[e] at h;obtain⟨h1,h2,h3,h4⟩:=JM e;exact⟨j,h1,h,h2,h3,h4⟩
theorem bh {α:Type} {xs:List α} {j:Nat} {v:α} (h:xs[j]?=some v):Cm xs (j:Int)=some v:=by
 have hj:j<xs.length:=(iT.mp h).1
 have e:S9 xs.length (j:Int)=some j:=by
  unfold S9;rw[bu (by omega),bu (by omega)]; simp
 unfold Cm; rw[e]; exact h
def T_ (b:Expr):Prop:=∀o i,subscripted b false o i=operate [o,i] (getItem o i)
structure Mz (X:Cx) (r:R2):Prop where
 mk ::
 go :
 ∀(value slice:Expr) (pins:List (Addr×Obj)) (s:Shared) (σ:St) (H:Hp) (x y:V) (v u:Value) (Q:VK),Inv X pins σ H s->RelV x v->RelV y u->r x y H Q ->
  subscripted slice false v u=operate [v,u] (getItem v u)->wpAny (model X.prog X.w) X.A (subscriptTail value slice v u) (EP X pins σ Q) X.xe s
instance {X:Cx} {r:R2}:CoeFun (Mz X r) (fun _=>
 ∀(value slice:Expr) (pins:List (Addr×Obj)) (s:Shared) (σ:St) (H:Hp) (x y:V) (v u:Value) (Q:VK),Inv X pins σ H s->RelV x v->RelV y u->r x y H Q ->
  subscripted slice false v u=operate [v,u] (getItem v u)->wpAny (model X.prog X.w) X.A (subscriptTail value slice v u) (EP X pins σ Q) X.xe s):=⟨Mz.go⟩
def MtR (X:Cx) (id:String) (r:V->List V->Hp->VK->Prop):Prop:=
 ∀(pins:List (Addr×Obj)) (s:Shared) (σ:St) (H:Hp) (x:V) (xs:List V) (v:Value) (us:List Value) (Q:VK),Inv X pins σ H s->RelV x v->Vals xs us->r x xs H Q ->
  wpAny (model X.prog X.w) X.A (call (.builtin id) (v::us)) (EP X pins σ Q) X.xe s
section
variable {X:Cx} {a b:Expr} {ta tb:TE} {pos:Pos}
theorem Mz.or {r r':R2} (h:Mz X r) (h':Mz X r'):Mz X (fun x y H Q=>r x y H Q\/r' x y H Q):=by
 refine .mk ?_;intro value slice pins s σ H x y v u Q I rx ry q hs;rcases q with q | q
 ·exact h value slice pins s σ H x y v u Q I rx ry q hs
 ·exact h' value slice pins s σ H x y v u Q I rx ry q hs
theorem bB {r:R2} (hr:Mz X r) (ha:PE X a ta) (hb:PE X b tb) (hs:T_ b):PE X (.Subscript a b pos) (Vy r ta tb):=by
 refine .mk ?_;intro pins s σ H Q I h;exact Subscript_ (Xr ha hb I h fun v u s2 x y H2 I2 rx ry q=>hr a b pins s2 σ H2 x y v u Q I2 rx ry q (hs _ _))
def acB (K:PySem.W.Frag):R2:=fun x y H Q=>∃p xs i v,x=.ref p/\y=.int i/\cg K H p xs/\Cm xs i=some v/\Q v H
def acA (K:PySem.W.Frag):R2:=fun x y H Q=>∃p xs i v,x=.ref p/\y=.int i/\e_ K H p xs/\Cm xs i=some v/\Q v H
def ZG:R2:=fun x y H Q=>∃z i c,x=.str z/\y=.int i/\z.length<=sizeLine/\Cm z.cps.toList i=some c/\Q (.str ⟨#[c]⟩) H
theorem JL:Mz X (acB X.K):=by
 refine .mk ?_;intro value slice pins s σ H x y v u Q I rx ry h hs;obtain⟨p,xs,i,z,rfl,rfl,hq,he,q⟩:=h;cases rx;obtain⟨t,rfl⟩:=ry;obtain⟨its,r,pl,hz⟩:=I.list hq;obtain⟨j,h1,h2,h3,h4,h5⟩:=Ck he;obtain⟨w,ew,Df⟩:=r.get h2;have hl:=r.length;have hn:=qg;have fin:EP X pins σ Q w s:=⟨z,H,I,Df,q⟩;by_cases h0:0<=i
 ·have hj:i.toNat=j:=by
   rw[seqIndex_of h0 h5] at h1;exact Option.some.inj h1
  exact item_listR pl.isList h0 (by omega) (by rw[hj]; simpa using ew) fin hs
 ·have hj:(i+(its.toArray.size:Int)).toNat=j:=by
   rw[seqIndex_neg (by omega) h4] at h1
   rw[fu,<- hl];exact Option.some.inj h1
  exact subscriptTail_builtinR (x:=w) pl.isList.typeIs slot_list_getitem.lookup
   (wpAny_getItem_list_neg (Q:=fun r s'=>r=w/\EP X pins σ Q r s') pl.isList (by omega) (by rw[fu] <;> omega) (by omega) (by rw[hj]; simpa using ew) ⟨rfl,fin⟩) hs
theorem WW:Mz X (acA X.K):=by
 refine .mk ?_;intro value slice pins s σ H x y v u Q I rx ry h hs;obtain⟨p,xs,i,z,rfl,rfl,hq,he,q⟩:=h;cases rx;obtain⟨t,rfl⟩:=ry;obtain⟨its,r,pl,hz⟩:=I.tuple hq;obtain⟨j,h1,h2,h3,h4,h5⟩:=Ck he;obtain⟨w,ew,Df⟩:=r.get h2;have hl:=r.length;have hn:=qg;have fin:EP X pins σ Q w s:=⟨z,H,I,Df,q⟩;exact subscriptTail_builtinR (x:=w) pl.typeIs slot_tuple_getitem.lookup
  (getItem_tuple (j:=j) (Q:=fun r s'=>r=w/\EP X pins σ Q r s') pl (by omega) (by omega) (by rw[fu,<- hl]; exact h1) (by simpa using ew) ⟨rfl,fin⟩) hs
theorem Hq:Mz X ZG:=by
 refine .mk ?_;intro value slice pins s σ H x y v u Q I rx ry h hs;obtain⟨z,i,c,rfl,rfl,hz,he,q⟩:=h;obtain⟨t,rfl⟩:=rx;obtain⟨t',rfl⟩:=ry;obtain⟨j,h1,h2,h3,h4,h5⟩:=Ck he;have hl:z.cps.toList.length=z.length:=by simp[Str.length]
 rw[hl] at h1 h4 h5;have hn:=qg
 exact tail_any (typeIs_str s z t) slot_str_getitem.lookup (getItem_str (c:=c) (by
  have e1:decide (i < -(2 ^ 63:Int))=false:=mC (by omega)
  have e2:decide (i≥2 ^ 63)=false:=mC (by omega)
  rw[e1,e2,Bool.or_false]) (by rw[h1]; simpa using h2) ⟨.str ⟨#[c]⟩,H,I.tok _,⟨_,rfl⟩,q⟩) hs
theorem Hk (its:List Value) (n j:Nat) (u:Value):Obj.mapSeq (·.setIfInBounds j u) { cls:=.type "list",data:=.seq its.toArray n }={ cls:=.type "list",data:=.seq (its.set j u).toArray n }:=by
 simp[Obj.mapSeq]
theorem Inv.lst {pins:List (Addr×Obj)} {σ:St} {H:Hp} {s:Shared} {p:Addr} {xs:List V} (I:Inv X pins σ H s) (h:H p=some (.lst xs)) :
  ∃(its:List Value) (n:Nat),Vals xs its/\s.heap.get? p=some { cls:=.type "list",data:=.seq its.toArray n }/\xs.length<=sizeLine:=by
 obtain⟨z,its,n,r,e⟩:=I.hok p _ h;exact⟨its,n,r,e,z⟩
theorem Inv.Ww {pins:List (Addr×Obj)} {σ:St} {H:Hp} {s:Shared} {p:Addr} {xs ys:List V} {its its':List Value} {n n':Nat} {f:Obj->Obj} (I:Inv X pins σ H s) (h:H p=some (.lst xs))
  (ho:s.heap.get? p=some { cls:=.type "list",data:=.seq its.toArray n }) (hf:f { cls:=.type "list",data:=.seq its.toArray n }={ cls:=.type "list",data:=.seq its'.toArray n' }) (r:Vals ys its') (hz:ys.length<=sizeLine) (t:Nat) :
  Inv X pins σ (upd H p (.lst ys)) { s with heap:=s.heap.update p f,toks:=t }:=by
 have e:(s.heap.update p f).get? p=some { cls:=.type "list",data:=.seq its'.toArray n' }:=by
  rw[Jo f ho (by rw[hf] <;> rfl),hf]
 refine I.write (x:=p) (e:=p) (by rw[h]; trivial) (.inl rfl) (fun b u hb q=>(GK _ _ (Ne.symm hb)).trans q) ⟨_,e⟩ ?_
 exact⟨hz,its',n',r,e⟩
def Zz:V->V->V->Hp->(Hp->Prop)->Prop:=fun o i v H Q=>∃p xs k j,o=.ref p/\i=.int k/\H p=some (.lst xs)/\S9 xs.length k=some j/\Q (upd H p (.lst (xs.set j v)))
theorem set_list:Mu X Zz:=by
 refine .mk ?_;intro pins s σ H o i v ov iv u Q I ro ri rv h;obtain⟨p,xs,k,j,rfl,rfl,hp,hj,q⟩:=h;cases ro;obtain⟨t,rfl⟩:=ri;obtain⟨its,n,r,ho,hz⟩:=I.lst hp;obtain⟨h1,h2,h3,h4⟩:=JM hj;have hl:=r.length;have hn:=qg
 have I':Inv X pins σ (upd H p (.lst (xs.set j v))) { s with heap:=s.heap.update p (Obj.mapSeq (·.setIfInBounds j u)) }:=
  I.Ww hp ho (Hk its n j u) (r.set rv j) (by rw[Gw]; exact hz) s.toks
 by_cases h0:0<=k
 ·have hk:k.toNat=j:=by
   rw[seqIndex_of h0 h4] at h1;exact Option.some.inj h1
  exact PySem.W.ki_setAt ho h0 (by omega) (by rw[fu,<- hl]; exact h4) (by rw[hk]; exact⟨_,I',q⟩)
 ·have hk:(k+(its.toArray.size:Int)).toNat=j:=by
   rw[seqIndex_neg (by omega) h3] at h1
   rw[fu,<- hl];exact Option.some.inj h1
  exact PySem.W.ki_setBack ho (by omega) (by rw[fu,<- hl]; exact h3) (by omega) (by rw[hk]; exact⟨_,I',q⟩)
theorem Ab (lo hi:Option Int) (n:Nat):(sliceBounds lo hi none n).1=((HT.fX n 0 lo:Nat):Int)/\(sliceBounds lo hi none n).2.1=((HT.fX n n hi:Nat):Int)/\(sliceBounds lo hi none n).2.2=1:=by
 refine⟨?_,?_,rfl⟩
 ·cases lo with
  | none=>simp[sliceBounds,HT.fX]
  | some i=>
   simp only[sliceBounds,HT.fX,Option.getD_none,show(1:Int)>0 by decide,if_true]
   by_cases h:i<0
   ·simp only[h,if_true] <;> omega
   ·simp only[h,if_false] <;> omega
 ·cases hi with
  | none=>simp[sliceBounds,HT.fX]
  | some i=>
   simp only[sliceBounds,HT.fX,Option.getD_none,show(1:Int)>0 by decide,if_true]
   by_cases h:i<0
   ·simp only[h,if_true] <;> omega
   ·simp only[h,if_false] <;> omega
theorem xF (its:List Value) (lo hi:Option Int):slicePick its.toArray lo hi none=((its.drop (HT.fX its.length 0 lo)).take (HT.fX its.length its.length hi-HT.fX its.length 0 lo)).toArray:=by
 obtain⟨h1,h2,h3⟩:=Ab lo hi its.toArray.size;unfold slicePick;rw[h1,h2,h3];simp only[sliceRange_one,pick_run,fu] <;> rfl
def RJ (K:PySem.W.Frag):V->Option Int->Option Int->Hp->VK->Prop:=fun x lo hi H Q=>∃a xs,x=.ref a/\cg K H a xs/\∀p,H p=none->Q (.ref p) (upd H p (.lst (qp xs lo hi)))
theorem qM:Xz X (RJ X.K):=by
 refine .mk ?_;intro pins s σ H x v vl vu lo hi sl Q I rx hs pl pu h;obtain⟨a,xs,rfl,hx,q⟩:=h;cases rx;obtain⟨its,r,ht,hz⟩:=I.list hx;have hlen:=r.length;refine⟨"list",_,slot_list_getitem.lookup,ht.isList.typeIs,?_⟩;refine wpAny_getItem_list_slice ht.isList hs pl pu .none (by simp) ?_ (by rw[fu] <;> omega)
 rw[xF,<- hlen];refine⟨.ref s.heap.objs.size,_,I.laid (t':=s.toks) (o:=.lst (qp xs lo hi)) (fun b ob q=>dW _ q) (bL _) ?_,rfl,q _ (I.hok.fresh (bL _))⟩;exact⟨j4 (uv xs lo hi) hz,_,0,(r.drop (HT.fX xs.length 0 lo)).take (HT.fX xs.length xs.length hi-HT.fX xs.length 0 lo),dw _ rfl⟩
def rD:V->Bool
 | .non=>true
 | .bl _=>true
 | .int _=>true
 | .str _=>true
 | _=>false
def QX:V->V->Bool
 | .non,.non=>true
 | .bl a,.bl b=>a==b
 | .bl a,.int b=>(if a then 1 else 0)==b
 | .int a,.bl b=>a==(if b then 1 else 0)
 | .int a,.int b=>a==b
 | .str a,.str b=>a==b
 | _,_=>false
theorem Xk {A:Around} {s:Shared} {y x:V} {u v:Value} (ry:RelV y u) (rx:RelV x v) (fy:rD y=true) (fx:rD x=true):SeqAt.EqAt A s u v (QX y x):=by
 cases y with
 | non=>
  cases ry;cases x with
  | non=>cases rx; exact SeqAt.EqAt.same _
  | bl b=>cases rx; exact SeqAt.EqAt.none_bool b
  | int b=>obtain⟨t,rfl⟩:=rx; exact SeqAt.EqAt.none_int b t
  | str b=>obtain⟨t,rfl⟩:=rx; exact SeqAt.EqAt.none_str b t
  | _=>exact absurd (show false=true from fx) jE
 | bl a=>
  cases ry;cases x with
  | non=>cases rx; exact SeqAt.EqAt.bool_none a
  | bl b=>cases rx; exact SeqAt.EqAt.bool_bool a b
  | int b=>obtain⟨t,rfl⟩:=rx; exact SeqAt.EqAt.bool_int a b t
  | str b=>obtain⟨t,rfl⟩:=rx; exact SeqAt.EqAt.bool_str a b t
  | _=>exact absurd (show false=true from fx) jE
 | int a=>
  obtain⟨t',rfl⟩:=ry;cases x with
  | non=>cases rx; exact SeqAt.EqAt.int_none a t'
  | bl b=>cases rx; exact SeqAt.EqAt.int_bool a t' b
  | int b=>obtain⟨t,rfl⟩:=rx; exact SeqAt.EqAt.int_int a t' b t
  | str b=>obtain⟨t,rfl⟩:=rx; exact SeqAt.EqAt.int_str a t' b t
  | _=>exact absurd (show false=true from fx) jE
 | str a=>
  obtain⟨t',rfl⟩:=ry;cases x with
  | non=>cases rx; exact SeqAt.EqAt.str_none a t'
  | bl b=>cases rx; exact SeqAt.EqAt.str_bool a t' b
  | int b=>obtain⟨t,rfl⟩:=rx; exact SeqAt.EqAt.str_int a t' b t
  | str b=>obtain⟨t,rfl⟩:=rx; exact SeqAt.EqAt.str_str a t' b t
  | _=>exact absurd (show false=true from fx) jE
 | _=>exact absurd (show false=true from fy) jE
def Hy (x:V) (u:Value):Bool:=match u with
 | .none=>QX .non x
 | .bool b=>QX (.bl b) x
 | .int i _=>QX (.int i) x
 | .str z _=>QX (.str z) x
 | _=>false
theorem Qf {x y:V} {u:Value} (r:RelV y u) (f:rD y=true):Hy x u=QX y x:=by
 cases y with
 | non=>cases r; rfl
 | bl b=>cases r; rfl
 | int i=>obtain⟨t,rfl⟩:=r; rfl
 | str z=>obtain⟨t,rfl⟩:=r; rfl
 | _=>exact absurd (show false=true from f) jE
theorem rN {x:V}:∀{xs:List V} {us:List Value},Vals xs us->xs.all rD=true->us.any (Hy x)=xs.any fun y=>QX y x
 | _,_,.nil,_=>rfl
 | y::xs,u::us,.cons r t,f=>by
  rw[List.all_cons,Gx] at f;rw[Gu,Gu,Qf r f.1,rN t f.2]
theorem nH {A:Around} {s:Shared} {x:V} {v:Value} (rx:RelV x v) (fx:rD x=true):∀{xs:List V} {us:List Value},Vals xs us->xs.all rD=true->∀u∈us,SeqAt.EqAt A s u v (Hy x u)
 | _,_,.nil,_=>fun u hu=>by cases hu
 | y::xs,u::us,.cons r t,f=>fun u' hu=>by
  rw[List.all_cons,Gx] at f;rcases bI.mp hu with rfl | hu
  ·rw[Qf r f.1]; exact Xk r rx f.1 fx
  ·exact nH rx fx t f.2 u' hu
def inV (x:V) (xs:List V):Bool:=xs.any fun y=>QX y x
def ZK (K:PySem.W.Frag) (neg:Bool):R2:=fun x y H Q=>∃p xs,y=.ref p/\(cg K H p xs\/e_ K H p xs)/\rD x=true/\xs.all rD=true/\Q (.bl (if neg then !inV x xs else inV x xs)) H
theorem La:mG X (compareOp .In) (ZK X.K false):=by
 refine .mk ?_;intro pins s σ H x y v u Q I rx ry h;obtain⟨p,xs,rfl,hq,fx,fs,q⟩:=h;cases ry;rcases hq with hq | hq
 ·obtain⟨its,r,pl,hz⟩:=I.list hq;refine SeqAt.in_listAt (Hy x) pl.isList (fun w hw=>nH rx fx r fs w (by simpa using hw)) ⟨.bl _,H,I,rfl,?_⟩
  rw[show its.toArray.any (Hy x)=its.any (Hy x) by simp,rN r fs]
  exact q
 ·obtain⟨its,r,pl,hz⟩:=I.tuple hq;refine SeqAt.in_tupleAt (Hy x) pl (fun w hw=>nH rx fx r fs w (by simpa using hw)) ⟨.bl _,H,I,rfl,?_⟩
  rw[show its.toArray.any (Hy x)=its.any (Hy x) by simp,rN r fs]
  exact q
theorem Az:mG X (compareOp .NotIn) (ZK X.K true):=by
 refine .mk ?_;intro pins s σ H x y v u Q I rx ry h;obtain⟨p,xs,rfl,hq,fx,fs,q⟩:=h;cases ry;rcases hq with hq | hq
 ·obtain⟨its,r,pl,hz⟩:=I.list hq;refine SeqAt.notIn_listAt (Hy x) pl.isList (fun w hw=>nH rx fx r fs w (by simpa using hw)) ⟨.bl _,H,I,rfl,?_⟩
  rw[show its.toArray.any (Hy x)=its.any (Hy x) by simp,rN r fs]
  exact q
 ·obtain⟨its,r,pl,hz⟩:=I.tuple hq;refine SeqAt.notIn_tupleAt (Hy x) pl (fun w hw=>nH rx fx r fs w (by simpa using hw)) ⟨.bl _,H,I,rfl,?_⟩
  rw[show its.toArray.any (Hy x)=its.any (Hy x) by simp,rN r fs]
  exact q
theorem BZ:cZ X (.builtin "len") (fun xs H Q=>∃p ys,xs=[.ref p]/\(cg X.K H p ys\/e_ X.K H p ys)/\Q (.int ys.length) H):=by
 refine .mk ?_;intro pins s σ H xs us Q I r h;obtain⟨p,ys,rfl,hq,q⟩:=h;obtain⟨u,rfl,rx⟩:=vals1 r;cases rx;have hn:=qg;rcases hq with hq | hq
 ·obtain⟨its,r',pl,hz⟩:=I.list hq;have hlen:=r'.length;exact Calls.call_len_list pl.isList (by simp only[fu] <;> omega) ⟨.int ys.length,H,I.tok _,⟨s.toks+1,by rw[fu,hlen]⟩,q⟩
 ·obtain⟨its,r',pl,hz⟩:=I.tuple hq;have hlen:=r'.length;exact len_tuple pl (by simp only[fu] <;> omega) ⟨.int ys.length,H,I.tok _,⟨s.toks+1,by rw[fu,hlen]⟩,q⟩
theorem rK:cZ X (.builtin "len") (fun xs H Q=>∃z,xs=[.str z]/\z.length<=sizeLine/\Q (.int z.length) H):=by
 refine .mk ?_;intro pins s σ H xs us Q I r h;obtain⟨z,rfl,hz,q⟩:=h;obtain⟨u,rfl,t,rfl⟩:=vals1 r;have hn:=qg;exact len_str (by omega) ⟨.int z.length,H,I.tok _,⟨_,rfl⟩,q⟩
theorem rJ:cZ X (.type "list") (fun xs H Q=>∃p ys,xs=[.ref p]/\(cg X.K H p ys\/e_ X.K H p ys)/\∀l,H l=none->Q (.ref l) (upd H l (.lst ys))):=by
 refine .mk ?_;intro pins s σ H xs us Q I r h;obtain⟨p,ys,rfl,hq,q⟩:=h;obtain⟨u,rfl,rx⟩:=vals1 r;cases rx;have fin:∀(its:List Value),Vals ys its->ys.length<=sizeLine->∀(h':Heap) (c':Nat),(∀b o',s.heap.get? b=some o'->h'.get? b=some o') ->
   h'.get? s.heap.objs.size=some { cls:=.type "list",dict:=none,data:=.seq its.toArray c',slots:=#[] }->EP X pins σ Q (.ref s.heap.objs.size) { s with heap:=h' }:=fun its r' hz h' c' kp e=>
  ⟨.ref s.heap.objs.size,_,I.laid (t':=s.toks) kp (bL _) (show cC X.prog X.w _ h' _ (.lst ys) from⟨hz,its,c',r',e⟩),rfl,q _ (I.hok.fresh (bL _))⟩
 rcases hq with hq | hq
 ·obtain⟨its,r',pl,hz⟩:=I.list hq;have hlen:=r'.length;obtain⟨o,ho,hc,n,hd⟩:=pl.isList;exact call_list_seq p (.inl rfl) ho hc hd (fun h' c' kp e=>fin its r' hz h' c' kp e) (by simp only[fu] <;> omega)
 ·obtain⟨its,r',pl,hz⟩:=I.tuple hq;have hlen:=r'.length;obtain⟨o,ho,hc,n,hd⟩:=pl;exact call_list_seq p (.inr rfl) ho hc hd (fun h' c' kp e=>fin its r' hz h' c' kp e) (by simp only[fu] <;> omega)
theorem yc:cZ X (.type "tuple") (fun xs H Q=>∃p ys,xs=[.ref p]/\((cg X.K H p ys/\∀l,H l=none->Q (.ref l) (upd H l (.tup ys)))\/(e_ X.K H p ys/\Q (.ref p) H))):=by
 refine .mk ?_;intro pins s σ H xs us Q I r h;obtain⟨p,ys,rfl,h⟩:=h;obtain⟨u,rfl,rx⟩:=vals1 r;cases rx;rcases h with⟨hq,q⟩ | ⟨hq,q⟩
 ·obtain⟨its,r',pl,hz⟩:=I.list hq;have hlen:=r'.length;refine call_tuple_list pl.isList (fun h' kp=>?_) (by simp only[fu] <;> omega)
  have I1:Inv X pins σ H { s with heap:=h' }:=I.kept (t':=s.toks) kp
  have I2:Inv X pins σ (upd H h'.objs.size (.tup ys)) { s with heap:=h'.push { cls:=.type "tuple",data:=.seq its.toArray } }:=
   I1.laid (t':=s.toks) (fun b o e=>dW _ e) (bL _) (show cC X.prog X.w _ _ _ (.tup ys) from⟨hz,its,r',IsTup.new _ _⟩)
  exact⟨.ref h'.objs.size,_,I2,rfl,q _ (I1.hok.fresh (bL _))⟩
 ·obtain⟨its,r',pl,hz⟩:=I.tuple hq;exact call_tuple_same pl ⟨.ref p,H,I,rfl,q⟩
def tyV (K:PySem.W.Frag) (T:String) (x:V) (H:Hp):Prop:=match x with
 | .str _=>T = "str"
 | .int _=>T = "int"
 | .ref p=>(T = "list" /\ ∃xs,cg K H p xs)\/(T = "tuple" /\ ∃o,K.lookup p=some o/\o.cls=.type "tuple" /\ o.dict=none) \/
   (T = "dict" /\ ((∃kvs,H p=some (.dK kvs))\/∃kvs,H p=some (.dT kvs)))\/(T = "set" /\ ∃S n,H p=some (.set S n))
 | _=>False
theorem M9 {pins:List (Addr×Obj)} {σ:St} {H:Hp} {s:Shared} {T:String} {x:V} {v:Value} (I:Inv X pins σ H s) (r:RelV x v) (ty:tyV X.K T x H) :
  s.TypeIs v T/\∀a,v=.ref a->∃ob,s.heap.get? a=some ob/\ob.dict=none:=by
 cases x with
 | str z=>
  obtain⟨t,rfl⟩:=r;cases(show T = "str" from ty);exact⟨typeIs_str s z t,fun _ e=>nomatch e⟩
 | int i=>
  obtain⟨t,rfl⟩:=r;cases(show T = "int" from ty);exact⟨typeIs_int s i t,fun _ e=>nomatch e⟩
 | ref p=>
  cases r;rcases ty with⟨rfl,xs,hq⟩ | ⟨rfl,o,hk,hc,hd⟩ | ⟨rfl,hk⟩ | ⟨rfl,S,n,hk⟩
  ·obtain⟨its,_,pl,_⟩:=I.list hq;refine⟨pl.isList.typeIs,fun a e=>?_⟩;cases e;obtain⟨o,n,e,c,hd,_⟩:=pl;exact⟨o,e,hd⟩
  ·refine⟨⟨o,I.mH p o hk,hc⟩,fun a e=>?_⟩;cases e;exact⟨o,I.mH _ o hk,hd⟩
  ·have z:∃o,s.heap.get? p=some o/\o.ExactDict:=by
    rcases hk with⟨kvs,hk⟩ | ⟨kvs,hk⟩
    ·obtain⟨_,_,_,_,o,_,_,e,ex,_⟩:=I.hok p _ hk;exact⟨o,e,ex⟩
    ·obtain⟨_,_,_,_,o,_,_,e,ex,_⟩:=I.hok p _ hk;exact⟨o,e,ex⟩
   obtain⟨o,e,ex⟩:=z;refine⟨⟨o,e,ex.1⟩,fun a e2=>?_⟩;cases e2;exact⟨o,e,ex.2.1⟩
  ·obtain⟨o,_,_,_,e,ex,_⟩:=I.hok p _ hk;refine⟨⟨o,e,ex.1⟩,fun a e2=>?_⟩;cases e2;exact⟨o,e,ex.2.1⟩
 | _=>exact False.elim ty
def ab_ (K:PySem.W.Frag) (T:String) (r:V->List V->Hp->VK->Prop) (to:TE):TE:=fun σ H Q=>to σ H fun x H1=>tyV K T x H1/\r x [] H1 Q
def tBM (K:PySem.W.Frag) (T:String) (r:V->List V->Hp->VK->Prop) (to:TE) (t:TA):TE:=fun σ H Q=>to σ H fun x H1=>tyV K T x H1/\t σ H1 fun xs H2=>r x xs H2 Q
variable {o e:Expr} {es:List Expr} {to:TE} {t:TA} {name:Str} {apos cpos:Pos} {T id:String} {r:V->List V->Hp->VK->Prop}
theorem ZW (pa:PlainAttrs T) (slot:Slot T name id) (hty:typeOf (.builtin id)=pure (.type "method_descriptor")) (hm:MtR X id r) (ho:PE X o to) (ha:PA X (e::es) t)
  (hbase:attributeBase o name X.env (eval o X.env)=eval o X.env:=by rfl)
  (hfew:((backTo cpos (starEach (e::es) X.env)).all (fun x=>!x.1)&&(backToKw cpos (keywordEach [] X.env)).all (fun x=>x.1.isSome)
   && decide ((e::es).length+([]:List Keyword).length+(if([]:List Keyword).isEmpty then 0 else 1)<30))=true:=by rfl)
  (hline:(apos.endLine==cpos.line)=true:=by rfl) (hs:starEach (e::es) X.env=(false,eval e X.env)::starEach es X.env:=by rfl) (hplain:(backTo cpos (starEach es X.env)).any (·.1)=false:=by rfl) :
  PE X (.Call (.Attribute o name apos) (e::es) [] cpos) (tBM X.K T r to t):=by
 refine .mk ?_;intro pins s σ H Q I h;refine wpAny_Call_method_late hbase hfew hline rfl (cI (ho pins s σ H _ I h) fun v s1 qx=>?_);obtain⟨x,H1,I1,r1,ty,q1⟩:=qx;obtain⟨h1,h2⟩:=M9 I1 r1 ty;refine⟨T,id,pa,slot,hty,h1,h2,?_⟩;have hA:=ha cpos pins s1 σ H1 _ I1 q1;rw[hs] at hA ⊢;refine Calls.callWith_builtin (by show(false || (backTo cpos (starEach es X.env)).any (·.1))=false; rw[hplain] <;> rfl) (Calls.evalArgs_plain ?_)
 exact cI hA fun us s2 ⟨vs,H2,I2,r2,q2⟩=>hm pins s2 σ H2 x vs v us Q I2 r1 r2 q2
end
def MtM (X:Cx) (id:String) (r:V->List V->Hp->VK->Prop):Prop:=
 ∀(pins:List (Addr×Obj)) (s:Shared) (σ:St) (H:Hp) (x:V) (xs:List V) (v:Value) (us:List Value) (Q:VK),Inv X pins σ H s->RelV x v->Vals xs us->r x xs H Q ->
  wpAny (model X.prog X.w) X.A (call (.builtin id) (v::us)) (EP X pins σ Q) X.xe s
theorem Vals.un {x:V} {xs:List V} {us:List Value} (h:Vals (x::xs) us):∃u r,us=u::r/\RelV x u/\Vals xs r:=by
 cases h with
 | cons r t=>exact⟨_,_,rfl,r,t⟩
theorem Vals.no {us:List Value} (h:Vals [] us):us=[]:=by
 cases h;rfl
theorem Vals.one {x:V} {us:List Value} (h:Vals [x] us):∃u,us=[u]/\RelV x u:=by
 obtain⟨u,r,rfl,h1,h⟩:=h.un;cases h.no;exact⟨u,rfl,h1⟩
theorem Vals.two {x y:V} {us:List Value} (h:Vals [x,y] us):∃u v,us=[u,v]/\RelV x u/\RelV y v:=by
 obtain⟨u,r,rfl,h1,h⟩:=h.un;obtain⟨v,rfl,h2⟩:=h.one;exact⟨u,v,rfl,h1,h2⟩
theorem Vals.rep {xs:List V} {us:List Value} (h:Vals xs us):∀k:Nat,Vals (List.replicate k xs).flatten (List.replicate k us).flatten
 | 0=>.nil
 | k+1=>by
  rw[KJ,KJ,Jj,Jj];exact Vals.append h (Vals.rep h k)
theorem foldl_rep (its:List Value):∀(k:Nat) (acc:List Value),
  List.foldl (fun x1 x2=>x1++x2) acc.toArray (List.replicate k its.toArray)=(acc++(List.replicate k its).flatten).toArray
 | 0,acc=>by simp
 | k+1,acc=>by
  have e:acc.toArray++its.toArray=(acc++its).toArray:=by simp
  have e2:(acc++its)++(List.replicate k its).flatten=acc++(List.replicate (k+1) its).flatten:=by
   rw[KJ,Jj,Dl]
  rw[<- e2,<- foldl_rep its k (acc++its),<- e,KJ,List.foldl_cons]
section
variable {X:Cx} {pins:List (Addr×Obj)} {σ:St} {H:Hp} {s:Shared} {l b:Addr} {xs ys zs:List V}
theorem Inv.aae {its its':List Value} {n:Nat} {f:Array Value->Array Value} {t':Nat} (I:Inv X pins σ H s) (hH:H l=some (.lst xs))
  (e:s.heap.get? l=some { cls:=.type "list",data:=.seq its.toArray n }) (hf:f its.toArray=its'.toArray) (hv:Vals ys its') (hz:ys.length<=sizeLine) :
  Inv X pins σ (upd H l (.lst ys)) { s with heap:=s.heap.update l (Obj.mapSeq f),toks:=t' }:=by
 have q:=PySem.IsL.update e f;rw[hf] at q;refine I.write (x:=l) (e:=l) (by rw[hH]; exact trivial) (.inl rfl) (fun b' u hb hu=>(GK s.heap (Obj.mapSeq f) (Ne.symm hb)).trans hu) ⟨_,q⟩ ?_
 exact⟨hz,its',_,hv,q⟩
theorem Inv.Wy {its:List Value} {t':Nat} (I:Inv X pins σ H s) (hv:Vals ys its) (hz:ys.length<=sizeLine) :
  Inv X pins σ (upd H s.heap.objs.size (.lst ys)) { s with heap:=s.heap.push { cls:=.type "list",data:=.seq its.toArray },toks:=t' }:=
 I.laid (fun _ _ q=>dW _ q) (bL _) ⟨hz,its,0,hv,dw _ rfl⟩
theorem Inv.fresh (I:Inv X pins σ H s):H s.heap.objs.size=none:=I.hok.fresh (bL _)
theorem Inv.Pj (I:Inv X pins σ H s) (hH:H l=some (.lst xs)):xs.length<=sizeLine/\∃(its:List Value) (n:Nat),Vals xs its/\xs.length=its.length/\s.heap.get? l=some { cls:=.type "list",data:=.seq its.toArray n }:=by
 obtain⟨z,its,n,r,e⟩:=I.hok l _ hH;exact⟨z,its,n,r,r.length,e⟩
theorem Pa {n:Nat} (h:n<=sizeLine):Builtin.List.listTooLong n=false:=by
 unfold Builtin.List.listTooLong;exact mC (by omega)
end
section
variable {X:Cx}
def RM:V->List V->Hp->VK->Prop:=fun x vs H Q=>∃l xs y,x=.ref l/\vs=[y]/\H l=some (.lst xs)/\xs.length<sizeLine/\Q .non (upd H l (.lst (xs++[y])))
theorem fC:MtM X "list.append" RM:=by
 intro pins s σ H x vs v us Q I rx rv h;obtain⟨l,xs,y,rfl,rfl,hH,hz,q⟩:=h;cases rx;obtain⟨u,rfl,ru⟩:=rv.one;obtain⟨z,its,n,r,hl,e⟩:=I.Pj hH;refine call_meets F.slot_list_append ⟨_,e,rfl⟩ F.entry_list_append (F.args_list_append_2 _ _) (PySem.list_append l its.toArray n u (by rw[fu]; omega)) ⟨e,?_⟩
 refine⟨.non,_,I.aae (its':=its++[u]) hH e (by simp) (r.append (.cons ru .nil)) ?_,rfl,q⟩
 rw[cN,List.length_singleton];omega
def Gr:R2:=fun x y H Q=>∃l b xs zs,x=.ref l/\y=.ref b/\H l=some (.lst xs)/\H b=some (.lst zs)/\xs.length+zs.length<=sizeLine/\∀p,H p=none->Q (.ref p) (upd H p (.lst (xs++zs)))
theorem Ba:mG X (binaryOp .Add) Gr:=by
 refine .mk ?_;intro pins s σ H x y v u Q I rx ry h;obtain⟨l,b,xs,zs,rfl,rfl,hH,hB,hz,q⟩:=h;cases rx;cases ry;obtain⟨z,its,n,r,hl,e⟩:=I.Pj hH;obtain⟨z2,its2,n2,r2,hl2,e2⟩:=I.Pj hB;refine PySem.P.add_list e e2 ?_ (by rw[fu,fu]; omega)
 have ea:its.toArray++its2.toArray=(its++its2).toArray:=by simp
 rw[ea];exact⟨.ref _,_,I.Wy (t':=s.toks) (r.append r2) (by rw[cN]; omega),rfl,q _ I.fresh⟩
def acy:R2:=fun x y H Q=>∃l k xs,x=.ref l/\y=.int k/\H l=some (.lst xs)/\-(2 ^ 63)<=k/\k<2 ^ 63/\xs.length*k.toNat<=sizeLine /\
 ∀p,H p=none->Q (.ref p) (upd H p (.lst (List.replicate k.toNat xs).flatten))
theorem len_rep {α:Type} (xs:List α) (k:Nat):(List.replicate k xs).flatten.length=k*xs.length:=by
 induction k with
 | zero=>simp
 | succ k ih=>rw[KJ,Jj,cN,ih,Nat.succ_mul,Nat.add_comm]
theorem Wi:mG X (binaryOp .Mult) acy:=by
 refine .mk ?_;intro pins s σ H x y v u Q I rx ry h;obtain⟨l,k,xs,rfl,rfl,hH,h1,h2,hz,q⟩:=h;cases rx;obtain⟨t,rfl⟩:=ry;obtain⟨z,its,n,r,hl,e⟩:=I.Pj hH;have hlen:its.toArray.size*k.toNat<=sizeLine:=by rw[fu,<- hl]; exact hz
 have adb:¬its.toArray.size*k.toNat>(2 ^ 63-1) / 8:=by
  have:(sizeLine:Nat)<=(2 ^ 63-1) / 8:=by decide
  omega
 have hfit:¬(!Builtin.List.listFitsIndex k)=true:=by
  rw[fitsIndex_both h1 h2];exact jE
 have aaj:¬Builtin.List.listTooLong (its.toArray.size*k.toNat)=true:=by
  rw[Pa hlen];exact jE
 have hnew:List.foldl (fun x1 x2=>x1++x2) #[] (List.replicate (if its.toArray.isEmpty=true then 0 else k.toNat) its.toArray)=(List.replicate k.toNat its).flatten.toArray:=by
  have f0:∀m:Nat,List.foldl (fun x1 x2=>x1++x2) #[] (List.replicate m its.toArray)=(List.replicate m its).flatten.toArray:=fun m=>by
   have:=foldl_rep its m [];rw[DN] at this;exact this
  rw[f0];cases its with
  | nil=>simp
  | cons a r'=>rw[aZ (by simp)]
 refine wpAny_binaryOp_repeat_ref (T:="list") (U:="int") (by decide) ⟨_,e,rfl⟩ (fun s'=>typeIs_int s' k t) noFill_list_mul F.fills_int_mul F.slot_int_rmul repeat_list F.slot_int_index.lookup
  (call_meets F.slot_int_rmul (typeIs_int s k t) F.entry_int_rmul (F.args_int_rmul_2 _ _) (int___rmul___int_list k t l its.toArray n)
   ⟨e,rfl,⟨_,e,rfl⟩,call_meets F.slot_list_mul ⟨_,e,rfl⟩ F.entry_list_mul (F.args_list_mul_2 _ _) (AutoListH.list___mul___list_int_3 l its.toArray n k t hfit adb aaj) ⟨e,?_⟩⟩)
 rw[hnew];exact⟨.ref _,_,I.Wy (t':=s.toks) (r.rep k.toNat) (by rw[len_rep,Nat.mul_comm]; exact hz),rfl,q _ I.fresh⟩
end
section
variable {prog:Program} {w:World} {A:Around} {E:Value->Shared->Prop} {s:Shared}
end
section
variable {X:Cx}
end
end L2
namespace Att
open PySem PySem.W PySem.Calls PyProof.Rows
theorem uJ {P:Params} {h:Heap}:∀(ns:List Int) (vs:List Value),WellAll P h vs (ns.map WData.int)->IntsAre vs ns:=by
 intro ns
 induction ns with
 | nil=>
  intro vs w;rw[Dt] at w;cases w;exact .nil
 | cons n ns ih=>
  intro vs w;rw[iB] at w;cases w with
  | cons a b=>
   cases a;exact .cons _ _ (ih _ b)
theorem Ky {l:OpenLaw} {n:Nat} (hn:l.most=some n) {P:Params} {h:Heap} {args:List WData} {vals:List Value}
  (hpre:l.row.toRowW.claim.pre args=true) (hwl:WellAll P h vals args) :
  ∃a vs ns,vals=[Value.ref a]/\args=[WData.list (ns.map WData.int)]/\h.get? a=some { cls:=.type "list",data:=.seq vs.toArray }/\IntsAre vs ns/\ns.length<=n:=by
 have hsh:WShape.hasAll [] args [.list .int]=true:=(pre_splitW hpre).1;have hc:l.pre.holds [] { args:=args }=true:=(pre_splitW hpre).2;obtain⟨d,r,rfl,h1,h2⟩:=hasAllW_cons hsh;obtain rfl:=hasAllW_nil h2;obtain⟨xs,rfl,h3⟩:=hasW_list h1;obtain⟨ns,rfl⟩:=items_int h3
 have hlen:ns.length<=n:=by
  unfold OpenLaw.pre at hc
  have h4:(WTm.not (.lt (.lit (.int (n:Int))) (.len (.arg 0)))).holds [] { args:=[.list (ns.map .int)] }=true:=by
   have h4:=(holds_andW hc).1;rw[hn] at h4;exact h4
  have h5:=condW_of h4 (w_not (w_lt w_lit (w_len_list (w_arg rfl))));rw[bZ] at h5;refine Nat.le_of_not_lt fun q=>?_;have q':(n:Int)<((ns.length:Nat):Int):=by omega
  first
   | (rw[oW q'] at h5; exact absurd h5 (by decide))
   | (simp at h5; omega)
 cases hwl with
 | cons w1 w2=>
  cases w2;cases w1 with
  | list ho hall=>exact⟨_,_,ns,rfl,rfl,ho,uJ ns _ hall,hlen⟩
theorem KR (l:OpenLaw) (args:List WData):l.row.toRowW.claim.post args (.bool true) args=true:=
 postW_of (r:=l.row.toRowW) (X:=(true==true))
  (show WShape.has [] (.bool true) .bool=true by first | rfl | decide | simp[WShape.has,WShape.arms,WShape.armsAll])
  (show(WTm.eq .res (.lit (.bool true))).value [] { args:=args,res:=some (.bool true),after:=args }=some (.bool (true==true)) from w_eq_bool (w_res rfl) w_lit) rfl
theorem Fg {l:OpenLaw} {n:Nat} {q:Program} {loose:List Str} {XP:(Str->Option Value)->Heap->Prop} {YP:World->Heap->Prop} {d:DefRec}
  (hn:l.most=some n) (hdf:d.params.defaults=[])
  (call:∀(w:World) (s₀ s₁:Shared) (mg mb:Str->Option Value) (fa:Addr) (o:Obj) (pm cd doc:Value) (a:Addr) (vs:List Value) (ns:List Int),
   Ground q loose [] XP w s₀ mg mb s₁.heap->YP w s₁.heap ->
   s₁.heap.get? fa=some o->o.data=.func (docDef d.name d.params d.body d.scope pm cd doc)->s₁.heap.CodeRec cd d.name->mg d.name=some (.ref fa) ->
   s₁.heap.get? a=some { cls:=.type "list",data:=.seq vs.toArray }->IntsAre vs ns->ns.length<=n->s₁.gens = #[] ->
   codeAny (model l.prog w) callerA (.call (.ref fa) ⟨[.ref a],[]⟩) (fun r s'=>r=.ok (.ret (.bool true))/\OldK s₁.heap s'.heap/\s'.os=s₁.os/\AllBare s'.gens) s₁) :
  WalkO q loose XP YP l.row.toRowW d [] (fun f vs=>PySem.call f vs):=by
 intro w s₀ s₁ mg mb G Y fa o pm cd doc dV kV ho hd hcd hD hmg hg args vals as hpre hlay hrd hwl hlo;obtain rfl:dV=.none:=Dflts.none hD hdf;obtain rfl:kV=.none:=Dflts.noKw hD;obtain⟨a,vs,ns,rfl,rfl,hobj,hints,hlen⟩:=Ky hn hpre hwl;refine enter_call (codeAny_mono (call w s₀ s₁ mg mb fa o pm cd doc a vs ns G Y ho (fd_plain hd) hcd hmg hobj hints hlen hg) fun r s' hq=>?_);obtain⟨rfl,h2,h3,h4⟩:=hq;exact⟨.inl ⟨.bool true,.bool true,[],rfl,fun _=>rfl,.bool true,KR l _,fun _=>⟨List.Pairwise.nil,fun _ hm=>(nomatch hm)⟩⟩,h2,h3,h4⟩
section
variable {prog:Program} {w:World} {A:Around} {E:Value->Shared->Prop} {s:Shared} {K:Frag}
def ledger (h:Heap) (L d:Addr):List (Addr×Obj):=(List.range h.objs.size).filterMap fun a=>if a=L\/a=d then none else(h.get? a).map fun o=>(a,o)
end
end Att
namespace L2
open PySem PySem.Spec PyProof.Rows
theorem yE:∀{vs:List Value} {ns:List Int},IntsAre vs ns->Vals (ns.map V.int) vs
 | _,_,.nil=>.nil
 | _,_,.cons n t h=>.cons ⟨t,rfl⟩ (yE h)
def Only (H:Hp):Prop:=∀b,H b=none\/∃o xs,H b=some (.rR o (.lst xs))
theorem Pn {P:Program} {w:World} {K:PySem.W.Frag} {mg mb:Str->Option Value} {CX:Ka} {k:Nat} {fa a:Addr} {fd:FuncData} {x:Str} {sp:Sp} {s₁:Shared} {vs:List Value} {ns:List Int}
  (KX:K.In s₁.heap) (hns:s₁.heap.Ns mainGlobals mg) (hb:s₁.heap.Ns builtinsNs mb) (hbb:∀x:Str,x ≠ "__name__" -> mb x=bootBuiltins x) (hlim:s₁.heap.NoLimit) (hg:s₁.gens = #[])
  (ha:s₁.heap.get? a=some { cls:=.type "list",data:=.seq vs.toArray }) (hi:IntsAre vs ns) (hl:ns.length<=sizeLine) (hr:fU k callerA)
  (F:∀base:Heap,K.In base->base.Ns mainGlobals mg->bJ P w K mg base CX k fa fd [x] sp) (hbind:∀(s:Shared) (u:Value),BindsTo s fd ⟨[u],[]⟩ [(x,u)])
  (hsp:∀H:Hp,Only H->cg K H a (ns.map V.int)->sp [.ref a] H (fun v _=>v=.bl true) fun _ _ _=>False)
  (hCX:∀H e s',CX [] H s₁ (fun _ _ _=>False) e s'->False) :
  codeAny (model P w) callerA (.call (.ref fa) ⟨[.ref a],[]⟩) (fun r s'=>r=.ok (.ret (.bool true))/\OldK s₁.heap s'.heap/\s'.os=s₁.os/\AllBare s'.gens) s₁:=by
 have rv:=yE hi;have lenV:=hi.length;have core:∀H:Hp,Only H->cg K H a (ns.map V.int)->nY P w H s₁.heap->(∀b,H b≠none->b=a)->(H a≠none->K.lookup a=none) ->
   codeAny (model P w) callerA (.call (.ref fa) ⟨[.ref a],[]⟩) (fun r s'=>r=.ok (.ret (.bool true))/\OldK s₁.heap s'.heap/\s'.os=s₁.os/\AllBare s'.gens) s₁:=by
  intro H hO hS hok hA hK;have J8:∀{b:Addr} {o:Obj},s₁.heap.get? b=some o->H b=none->(Br s₁.heap H).get? b=some o:=fun e n=>Pz e n
  have Z6:∀{b:Addr} {o:Obj} {es:Array DictEntry} {ep:Nat},s₁.heap.get? b=some o->o.data=.dict es ep->H b=none:=fun {b o es ep} e d=>by
   cases q:H b with
   | none=>rfl
   | some u=>
    have e':b=a:=hA b (by rw[q]; simp)
    subst e';rw[ha] at e; cases e;have d':Data.seq vs.toArray _=Data.dict es ep:=d;cases d'
  have nsK:∀{b:Addr} {m:Str->Option Value},s₁.heap.Ns b m->(Br s₁.heap H).Ns b m:=fun {b m} ⟨o,es,ep,e,d,r⟩=>⟨o,es,ep,J8 e (Z6 e d),d,r⟩
  have hKb:K.In (Br s₁.heap H):=fun b o e=>J8 (KX b o e) (by
   cases q:H b with
   | none=>rfl
   | some u=>
    have e':b=a:=hA b (by rw[q]; simp)
    subst e'
    rw[hK (by rw[q]; simp)] at e; cases e)
  have hM:Mod K mg (Br s₁.heap H):=⟨hKb,nsK hns,⟨mb,nsK hb,hbb⟩,let ⟨mc,h1,h2⟩:=hlim; ⟨mc,nsK h1,h2⟩⟩;have e0:Il P w K mg (Br s₁.heap H) callerA [] s₁ H:=⟨rfl,hM,fun b o e=>Sv e,Nat.le_of_eq (Lx _ _),trivial,fun b hb=>absurd (show b∈([]:List Addr) from hb) (by simp),hok,.of_eq hg⟩
  refine codeAny_mono ((F _ hKb (nsK hns)).run callerA [] s₁ H ⟨[.ref a],[]⟩ [.ref a] [.ref a] _ _ hr e0 (hbind s₁ (.ref a)) (.cons rfl .nil) (hsp H hO hS)) fun r s' h=>?_;cases r with
  | error e=>exact(hCX H e s' h).elim
  | ok fl=>
   cases fl with
   | next=>exact False.elim h
   | brk=>exact False.elim h
   | cont=>exact False.elim h
   | ret u=>
    obtain⟨v,H',os,bare,un,hok',r',q⟩:=h;have q':v=.bl true:=q;subst q';obtain rfl:u=Value.bool true:=r';refine⟨rfl,OldK.of_keep fun b o e=>?_,os,bare⟩;cases q:H b with
    | none=>exact un.keep b o e q (by intro z; exact absurd (show b∈([]:List Addr) from z) (by simp)) (by simp)
    | some u=>
     rcases hO b with z | ⟨ob,xs,z⟩
     ·rw[q] at z; cases z
     ·have z2:=un.wZ b ob _ z;obtain⟨e1,_⟩:=hok b _ z;obtain⟨e2,_⟩:=hok' b _ z2;rw[e] at e1; cases e1;exact e2
 cases hk:K.lookup a with
 | some o=>
  have e:=KX a o hk;rw[ha] at e;cases e;refine core (fun _=>none) (fun _=>.inl rfl) (.inr ⟨_,vs.toArray,_,hk,rfl,rfl,rfl,by rw[fu,lenV]; exact hl,by simpa using rv⟩) (fun b u z=>by have z':(none:Option HO)=some u:=z; cases z') (fun b z=>absurd rfl z) fun z=>absurd rfl z
 | none=>
  refine core (fun b=>if b=a then some (.rR { cls:=.type "list",data:=.seq vs.toArray } (.lst (ns.map V.int))) else none) (fun b=>?_) (.inl (.inr ⟨{ cls:=.type "list",data:=.seq vs.toArray },bu rfl⟩)) (fun b u z=>?_) (fun b z=>?_) fun _=>hk
  ·by_cases hb:b=a
   ·exact .inr ⟨_,_,bu hb⟩
   ·exact .inl (aZ hb)
  ·by_cases hb:b=a
   ·have z':=(bu hb).symm.trans z;cases z';subst hb;exact⟨ha,by rw[bZ]; exact hl,vs,_,rv,ha⟩
   ·have z':=(aZ hb).symm.trans z;cases z'
  ·by_cases hb:b=a
   ·exact hb
   ·exact absurd (aZ hb) z
abbrev KOf {K:PySem.W.Frag} {h:Heap} (_:K.In h):PySem.W.Frag:=K
theorem Rf {l:PySem.W.OpenLaw} {n k:Nat} {q:Program} {loose:List Str} {XP:(Str->Option Value)->Heap->Prop} {YP:World->Heap->Prop} {d:DefRec} {K:Params->PySem.W.Frag} {CX:World->Ka} {sp:World->Sp} {x:Str}
  (hn:l.most=some n) (hn2:n<=sizeLine) (hdf:d.params.defaults=[]) (hr:fU k callerA)
  (hY:∀(w:World) (h:Heap),YP w h->(K w.params).In h)
  (F:∀(w:World) (mg:Str->Option Value) (fa:Addr) (h:Heap),(K w.params).In h->h.Ns mainGlobals mg->mg d.name=some (.ref fa) ->
   ∃fd:FuncData,(∀(s:Shared) (u:Value),BindsTo s fd ⟨[u],[]⟩ [(x,u)]) /\
    ∀base:Heap,(K w.params).In base->base.Ns mainGlobals mg->bJ l.prog w (K w.params) mg base (CX w) k fa fd [x] (sp w))
  (hsp:∀(w:World) (H:Hp) (a:Addr) (ns:List Int),ns.length<=n->Only H->cg (K w.params) H a (ns.map V.int)->sp w [.ref a] H (fun v _=>v=.bl true) fun _ _ _=>False)
  (hCX:∀(w:World) (H:Hp) (s:Shared) (e:Value) (s':Shared),CX w [] H s (fun _ _ _=>False) e s'->False) :
  PySem.W.WalkO q loose XP YP l.row.toRowW d [] (fun f vs=>PySem.call f vs):=by
 refine Att.Fg hn hdf fun w s₀ s₁ mg mb fa o pm cd doc a vs ns G Y ho hd hcd hmg hobj hints hlen hg=>?_;have KX:=hY w _ Y;obtain⟨fd,hb,hF⟩:=F w mg fa _ KX G.T.g hmg;exact Pn KX G.T.g G.T.b G.T.builtins G.T.nolimit hg hobj hints (j4 hlen hn2) hr hF hb (fun H hO hS=>hsp w H a ns hlen hO hS) fun H e s'=>hCX w H s₁ e s'
end L2
namespace L2
open PySem PySem.Spec PyProof.Rows
def inClass (s:Stmt) (j:Nat):Stmt:=match s with
 | .ClassDef _ _ _ body _ _ _ _ _ _ _=>body.getD j (.Pass ⟨0,0,0,0⟩)
 | _=>.Pass ⟨0,0,0,0⟩
def cu (s:Stmt):Arguments:=match s with
 | .FunctionDef _ a _ _ _ _ _ _ _ _=>a
 | _=>{ posonlyargs:=[],args:=[],vararg:=none,kwonlyargs:=[],kw_defaults:=[],kwarg:=none,defaults:=[] }
def bV (s:Stmt):List Stmt:=match s with
 | .FunctionDef _ _ b _ _ _ _ _ _ _=>b
 | _=>[]
def aF (s:Stmt):Scope:=match s with
 | .FunctionDef _ _ _ _ _ _ sc _ _ _=>sc
 | _=>{ kind:=.function,names:=[],isGenerator:=false,isCoroutine:=false }
abbrev gf:Ka:=fun _ _ _ _ _ _=>False
abbrev E0:XK:=fun _ _ _=>False
theorem D_ {X:Cx}:Passes gf X E0:=fun _ _ _ _ _ _ _ h=>h.elim
structure iK (K:PySem.W.Frag) (x qual:Str) (st:Stmt) (f:Addr) (fd:FuncData):Prop where
 ex:∃(oc:Value) (od:Option Addr) (kV doc pm:Value) (an:Option Addr) (cdv ct:Value) (osl:Array (Option Value)),
  fd=PySem.W.fnOf x qual (cu st) (bV st) (aF st) .none kV doc pm an cdv ct/\K.lookup f=some ⟨oc,od,.func fd,osl⟩/\PySem.W.codeIn K cdv qual=true
 kp:PySem.W.keepIn K (.ref f)=true
section
variable {P:Program} {w:World} {K:PySem.W.Frag} {mg:Str->Option Value} {base:Heap}
theorem iK.ok {x qual:Str} {st:Stmt} {f:Addr} {fd:FuncData} {N ps:List Str} {k:Nat} {sp:Sp} (F:iK K x qual st f fd) (S:aV N ps (aF st)) (len:∀vs H Q E,sp vs H Q E->vs.length=ps.length)
  (hbody:∀(cdv:Value) (A:Around) (outer:List Env) (s:Shared) (H:Hp) (vs:List V) (Q:VK) (E:XK),fU k (A.deeper (envOfC qual (aF st) s.heap.objs.size f cdv))->sp vs H Q E ->
   ∃t,Fo (xf gf P w K mg base N qual (aF st) f cdv A outer s H E).X5 (bV st) t/\t { nx:=fun _ H'=>Q .non H',rt:=Q } (start N vs) H):bJ P w K mg base gf (k+1) f fd ps sp:=by
 obtain⟨oc,od,kV,doc,pm,an,cdv,ct,osl,rfl,lk,hcd⟩:=F.ex;refine U8 lk hcd S len fun A outer s H vs Q E hr hsp=>?_;obtain⟨t,h,q⟩:=hbody cdv A outer s H vs Q E hr hsp;exact⟨t,h.X5,q⟩
theorem iK.binds {x qual:Str} {st:Stmt} {f:Addr} {fd:FuncData} {ps:List Str} (F:iK K x qual st f fd)
  (h:∀(kV doc pm:Value) (an:Option Addr) (cdv ct:Value) (us:List Value),us.length=ps.length->bindArgs (PySem.W.fnOf x qual (cu st) (bV st) (aF st) .none kV doc pm an cdv ct) ⟨us,[]⟩=pure (ps.zip us)):Binds K fd ps []:=by
 obtain⟨oc,od,kV,doc,pm,an,cdv,ct,osl,rfl,lk,hcd⟩:=F.ex;exact .all (h kV doc pm an cdv ct)
theorem Hw {x qual:Str} {st:Stmt} {f:Addr} {oc:Value} {od an:Option Addr} {osl:Array (Option Value)} {kV doc pm cdv ct:Value} (l:K.lookup f=some ⟨oc,od,.func (PySem.W.fnOf x qual (cu st) (bV st) (aF st) .none kV doc pm an cdv ct),osl⟩)
  (c:PySem.W.codeIn K cdv qual=true) (k:PySem.W.keepIn K (.ref f)=true):iK K x qual st f (PySem.W.fnOf x qual (cu st) (bV st) (aF st) .none kV doc pm an cdv ct):=⟨⟨oc,od,kV,doc,pm,an,cdv,ct,osl,rfl,l,c⟩,k⟩
end
theorem aY {n:Nat} (h:n<=1000):n<sizeLine:=Nat.lt_of_le_of_lt h (by decide)
section
variable {X:Cx}
theorem pv (i:Nat) {x:Str} {pos:Pos} (hN:X.N[i]?=some x:=by rfl) (hv:Vis X.env.scope x:=by first | exact Or.inl rfl | exact Or.inr (Or.inl rfl) | exact Or.inr (Or.inr rfl)) (hd:(x==("__debug__" : Str))=false:=by decide)
  (hcd:(x==("__classdict__" : Str))=false:=by decide):PE X (.Name x pos) (uw i):=We hN hv hd hcd
end
theorem aag {c A B:Prop} [Decidable c] (h1:c->A) (h2:¬c->B):if c then A else B:=by
 by_cases h:c
 ·rw[bu h];exact h1 h
 ·rw[aZ h];exact h2 h
def aP (H H':Hp):Prop:=∀b o,H b=some o->H' b=some o
theorem aP.refl (H:Hp):aP H H:=fun _ _ h=>h
theorem aP.trans {H H1 H2:Hp} (a:aP H H1) (b:aP H1 H2):aP H H2:=fun c o h=>b c o (a c o h)
section
variable {κ:Type} [DecidableEq κ]
def qF (kvs:List (κ×V)) (k:κ):Option V:=(kvs.find? fun kv=>decide (kv.1=k)).map (·.2)
def putK (kvs:List (κ×V)) (k:κ) (v:V):List (κ×V):=
 if(kvs.any fun kv=>decide (kv.1=k))=true then kvs.map (fun kv=>if kv.1=k then(kv.1,v) else kv) else kvs++[(k,v)]
theorem qD {p:κ×V} {r:List (κ×V)} {k:κ} (e:p.1=k):qF (p::r) k=some p.2:=by simp[qF,yU,e]
theorem uW {p:κ×V} {r:List (κ×V)} {k:κ} (e:¬p.1=k):qF (p::r) k=qF r k:=by simp[qF,yU,e]
theorem CP (k:κ):∀kvs:List (κ×V),(kvs.any fun kv=>decide (kv.1=k))=(qF kvs k).isSome
 | []=>rfl
 | p::r=>by
  rw[Gu];by_cases e:p.1=k
  ·simp only[qD e,oW e,Bool.true_or,Option.isSome_some]
  ·rw[uW e,mC e,Bool.false_or]; exact CP k r
theorem iC (kvs:List (κ×V)) (k:κ) (v:V):(putK kvs k v).length<=kvs.length+1:=by
 unfold putK;split
 ·rw[bZ]; omega
 ·rw[cN,gZ,vX]; omega
theorem pF.Ls {o:Option V} {u:Option Value} (r:pF o u):o.isSome=u.isSome:=by
 cases o with
 | none=>cases u with
  | none=>rfl
  | some _=>exact(show False from r).elim
 | some _=>cases u with
  | none=>exact(show False from r).elim
  | some _=>rfl
theorem KV.val {kvs:List (κ×V)} {vs:List (κ×Value)} (r:KV kvs vs) (k:κ):pF (qF kvs k) (valueAt vs k):=by
 unfold KV at r
 induction r with
 | nil=>exact True.intro
 | @cons p q ps qs h t ih=>
  obtain⟨h1,h2⟩:=h;by_cases e:p.1=k
  ·have e':q.1=k:=h1.symm.trans e;have b:valueAt (q::qs) k=some q.2:=by simp[valueAt,yU,e']
   rw[qD e,b]; exact h2
  ·have e':¬q.1=k:=fun z=>e (h1.trans z);have b:valueAt (q::qs) k=valueAt qs k:=by simp[valueAt,yU,e']
   rw[uW e,b]; exact ih
theorem KV.any {kvs:List (κ×V)} {vs:List (κ×Value)} (r:KV kvs vs) (k:κ):(kvs.any fun kv=>decide (kv.1=k))=vs.any fun kv=>decide (kv.1=k):=by
 unfold KV at r
 induction r with
 | nil=>rfl
 | cons h t ih=>rw[Gu,Gu,ih,h.1]
theorem KV.repl {kvs:List (κ×V)} {vs:List (κ×Value)} (r:KV kvs vs) (k:κ) {y:V} {u:Value} (ry:RelV y u) :
  KV (kvs.map fun kv=>if kv.1=k then(kv.1,y) else kv) (vs.map fun kv=>if kv.1=k then(kv.1,u) else kv):=by
 unfold KV at r ⊢
 induction r with
 | nil=>exact .nil
 | @cons p q ps qs h t ih=>
  rw[iB,iB];refine .cons ?_ ih;obtain⟨h1,h2⟩:=h;by_cases e:p.1=k
  ·rw[bu e,bu (h1.symm.trans e)]; exact⟨h1,ry⟩
  ·rw[aZ e,aZ (fun z=>e (h1.trans z))]; exact⟨h1,h2⟩
theorem KV.put {kvs:List (κ×V)} {vs:List (κ×Value)} (r:KV kvs vs) (k:κ) {y:V} {u:Value} (ry:RelV y u):KV (putK kvs k y) (stored vs k u):=by
 unfold putK stored;rw[r.any k];by_cases e:(vs.any fun kv=>decide (kv.1=k))=true
 ·rw[bu e,bu e]; exact r.repl k ry
 ·rw[aZ e,aZ e]; exact Paired.snoc r ⟨rfl,ry⟩
theorem KV.length {kvs:List (κ×V)} {vs:List (κ×Value)} (r:KV kvs vs):kvs.length=vs.length:=Paired.length r
end
theorem Eo {P:Program} {w:World} {k:Key} {u:Value} (r:RelV (kV k) u):(d7 P w).is k u=true:=by
 cases k with
 | inl i=>obtain⟨t,e⟩:=(show ∃t,u=Value.int i t from r); subst e; exact En P w i t
 | inr x=>obtain⟨t,e⟩:=(show ∃t,u=Value.str x t from r); subst e; exact Em P w x t
theorem zb {P:Program} {w:World}:∀{ks:List Key} {us:List Value},Vals (ks.map kV) us->ItemsAre (d7 P w) ks us
 | [],_,r=>by rw[Dt] at r; cases r; exact .nil
 | k::ks,_,r=>by
  rw[iB] at r;cases r with
  | cons h t=>exact .cons (Eo h) (zb t)
abbrev KT (H:Hp):List (List Key×V)->List (List Key×Addr×Value)->Prop:=Paired fun p q=>p.1=q.1/\H q.2.1=some (.tup (p.1.map kV))/\RelV p.2 q.2.2
theorem KT.val {H:Hp} {kvs:List (List Key×V)} {xs:List (List Key×Addr×Value)} (r:KT H kvs xs) (k:List Key):pF (qF kvs k) ((atKey xs k).map (·.2)):=by
 induction r with
 | nil=>exact True.intro
 | @cons p q ps qs h t ih=>
  obtain⟨h1,_,h2⟩:=h;by_cases e:p.1=k
  ·have e':q.1=k:=h1.symm.trans e;have b:atKey (q::qs) k=some q.2:=by simp[atKey,yU,e']
   rw[qD e,b]; exact h2
  ·have e':¬q.1=k:=fun z=>e (h1.trans z);have b:atKey (q::qs) k=atKey qs k:=by simp[atKey,yU,e']
   rw[uW e,b]; exact ih
theorem KT.repl {H:Hp} {kvs:List (List Key×V)} {xs:List (List Key×Addr×Value)} (r:KT H kvs xs) (k:List Key) {y:V} {u:Value} (ry:RelV y u) :
  KT H (kvs.map fun kv=>if kv.1=k then(kv.1,y) else kv) (xs.map (putAt k u)):=by
 induction r with
 | nil=>exact .nil
 | @cons p q ps qs h t ih=>
  rw[iB,iB];refine .cons ?_ ih;obtain⟨h1,h2,h3⟩:=h;unfold putAt;by_cases e:p.1=k
  ·rw[bu e,bu (h1.symm.trans e)]; exact⟨h1,h2,ry⟩
  ·rw[aZ e,aZ (fun z=>e (h1.trans z))]; exact⟨h1,h2,h3⟩
theorem KT.put {H:Hp} {kvs:List (List Key×V)} {xs:List (List Key×Addr×Value)} (r:KT H kvs xs) (k:List Key) {b:Addr} {y:V} {u:Value} (hb:H b=some (.tup (k.map kV))) (ry:RelV y u) :
  KT H (putK kvs k y) (storedH xs k b u):=by
 have e:(kvs.any fun kv=>decide (kv.1=k))=(atKey xs k).isSome:=by
  rw[CP,(r.val k).Ls,Option.isSome_map]
 unfold putK storedH;rw[e];by_cases q:(atKey xs k).isSome=true
 ·rw[bu q,bu q]; exact r.repl k ry
 ·rw[aZ q,aZ q]; exact Paired.snoc r ⟨rfl,hb,ry⟩
theorem KT.keeps {H H':Hp} {kvs:List (List Key×V)} {xs:List (List Key×Addr×Value)} (r:KT H kvs xs) (ht:∀b ys,H b=some (.tup ys)->H' b=some (.tup ys)):KT H' kvs xs:=
 Paired.Wu r fun _ _ z=>⟨z.1,ht _ _ z.2.1,z.2.2⟩
section
variable {P:Program} {w:World} {H:Hp} {h:Heap} {a:Addr}
theorem UJ {u:HO} (ok:nY P w H h) (e:Rd H a u):cC P w H h a u:=e.ok ok
theorem Qh {kvs:List (Key×V)} (ok:nY P w H h) (e:Rd H a (.dK kvs)):kvs.length<=sizeLine/\(a==sysModules)=false/\∃vs,KV kvs vs/\h.DictOf (d7 P w) a vs:=
 show cC P w H h a (.dK kvs) from UJ ok e
theorem JZ {kvs:List (Key×V)} (ok:nY P w H h) (e:H a=some (.dK kvs)):kvs.length<=sizeLine/\(a==sysModules)=false/\∃vs,KV kvs vs/\h.DictOf (d7 P w) a vs:=Qh ok (.inl e)
theorem Ho {ks:List Key} (ok:nY P w H h) (e:H a=some (.tup (ks.map kV))):(tupleKind (d7 P w)).is h ks a:=by
 obtain⟨_,its,r,o,h1,h2,n,h3⟩:=(show cC P w H h a (.tup (ks.map kV)) from ok a _ e);exact⟨o,its.toArray,n,h1,h2,h3,by simpa using zb r⟩
theorem Qg {kvs:List (List Key×V)} (ok:nY P w H h) (e:Rd H a (.dT kvs)):kvs.length<=sizeLine/\(a==sysModules)=false /\
  ∃xs,KT H kvs xs/\h.DictOfH (tupleKind (d7 P w)) a xs:=by
 obtain⟨z,y,xs,r,o,es,ep,h1,h2,h3,h4,h5⟩:=(show cC P w H h a (.dT kvs) from UJ ok e);refine⟨z,y,xs,r,o,es,ep,h1,h2,h3,h4,fun x hx=>?_,h5⟩
 have all:∀{l:List (List Key×V)} {m:List (List Key×Addr×Value)},KT H l m->∀x∈m,(tupleKind (d7 P w)).is h x.1 x.2.1:=by
  intro l m q
  induction q with
  | nil=>intro x hx; exact nomatch hx
  | @cons p q ps qs hq t ih=>
   intro x hx;rcases bI.mp hx with e | hx
   ·subst e;exact Ho ok (by rw[<- hq.1]; exact hq.2.1)
   ·exact ih x hx
 exact all r x hx
theorem aaG {kvs:List (List Key×V)} (ok:nY P w H h) (e:H a=some (.dT kvs)):kvs.length<=sizeLine/\(a==sysModules)=false /\
  ∃xs,KT H kvs xs/\h.DictOfH (tupleKind (d7 P w)) a xs:=Qg ok (.inl e)
end
def lB (H:Hp) (a:Addr) (y:V) (r:Option V):Prop:=
 (∃kvs k,Rd H a (.dK kvs)/\y=kV k/\r=qF kvs k)\/∃kvs k b,Rd H a (.dT kvs)/\y=.ref b/\H b=some (.tup (k.map kV))/\r=qF kvs k
def rP (H:Hp) (a:Addr) (y v:V) (H':Hp):Prop:=
 (∃kvs k,H a=some (.dK kvs)/\y=kV k/\kvs.length<sizeLine/\H'=upd H a (.dK (putK kvs k v))) \/
 ∃kvs k b,H a=some (.dT kvs)/\y=.ref b/\H b=some (.tup (k.map kV))/\kvs.length<sizeLine/\H'=upd H a (.dT (putK kvs k v))
theorem lB.k {H:Hp} {a:Addr} {kvs:List (Key×V)} {k:Key} (e:H a=some (.dK kvs)):lB H a (kV k) (qF kvs k):=.inl ⟨kvs,k,.inl e,rfl,rfl⟩
theorem rP.k {H:Hp} {a:Addr} {kvs:List (Key×V)} {k:Key} {v:V} (e:H a=some (.dK kvs)) (hl:kvs.length<sizeLine):rP H a (kV k) v (upd H a (.dK (putK kvs k v))):=.inl ⟨kvs,k,e,rfl,hl,rfl⟩
section
variable {X:Cx} {pins:List (Addr×Obj)} {σ:St} {H:Hp} {s:Shared} {a:Addr} {y v:V} {u r:Value} {o:Option V} {A:Around} {E:Value->Shared->Prop}
theorem Inv.big (I:Inv X pins σ H s):sysModules<s.heap.objs.size:=by
 have h:mainGlobals<s.heap.objs.size:=(I.mod.glob.keeps I.bk).lt;exact Du (by decide) h
theorem zL {Q:Value->Shared->Prop} (hu:A.units+1<cLine) (I:Inv X pins σ H s) (g:lB H a y (some v)) (ry:RelV y u) (h:∀w' s',Inv X pins σ H s'->RelV v w'->Q w' s') :
  wpAny (model X.prog X.w) A (getItem (.ref a) u) Q E s:=by
 rcases g with⟨kvs,k,e,ey,l⟩ | ⟨kvs,k,b,e,ey,eb,l⟩
 ·subst ey;obtain⟨z,hd,vs,rel,dd⟩:=Qh I.hok e;obtain⟨w',hw,Df⟩:=pF.some_of (v:=v) (o:=valueAt vs k) (by rw[l]; exact rel.val k)
  exact wpAny_getItem_of (Eo ry) dd.mapOf hw (h w' _ (I.tok _) Df)
 ·subst ey;cases(show u=Value.ref b from ry);obtain⟨z,hd,xs,rel,dd⟩:=Qg I.hok e;obtain⟨w',hw,Df⟩:=pF.some_of (v:=v) (o:=(atKey xs k).map (·.2)) (by rw[l]; exact rel.val k)
  obtain⟨p,hp,hp2⟩:=Jp.mp hw;refine wpAny_getItem_heap (tupleKind_room_in1 hu) (Ho I.hok eb) dd hp ?_;rw[hp2];exact h w' _ (I.tok _) Df
theorem rF {h':Heap} {t':Nat} {ob:HO} (I:Inv X pins σ H s) (mu:Mut (H a)) (hs:Heap.SameBut a s.heap h') (he:∃q,h'.get? a=some q) (new:cC X.prog X.w (upd H a ob) h' a ob) :
  Inv X pins σ (upd H a ob) { s with heap:=h',toks:=t' }:=
 I.write (x:=a) (e:=a) mu (.inl rfl) (fun b q hb z=>(hs.2 b hb).trans z) he new
theorem Hz {P:Program} {w:World} {H':Hp} {h':Heap} {kvs:List (Key×V)} {vs:List (Key×Value)} (z:kvs.length<=sizeLine) (hd:(a==sysModules)=false) (rel:KV kvs vs) (dd:h'.DictOf (d7 P w) a vs) :
  cC P w H' h' a (.dK kvs):=⟨z,hd,vs,rel,dd⟩
theorem zH {H':Hp} {Q:Unit->Shared->Prop} (hu:A.units+1<cLine) (I:Inv X pins σ H s) (g:rP H a y v H') (ry:RelV y u) (rv:RelV v r) (h:∀s',Inv X pins σ H' s'->Q () s') :
  wpAny (model X.prog X.w) A (setItem (.ref a) u r) Q E s:=by
 rcases g with⟨kvs,k,e,ey,l,eH⟩ | ⟨kvs,k,b,e,ey,eb,l,eH⟩
 ·subst ey eH;obtain⟨z,hd,vs,rel,dd⟩:=JZ I.hok e;have hz:vs.length<=sizeLine:=by rw[<- rel.length]; exact z
  have hl:(putK kvs k v).length<=sizeLine:=by have:=iC kvs k v; omega
  refine wpAny_setItem_pairs (hsz:=hz) (Eo ry) dd fun h' Xo hs=>h _ ?_;have he:∃q,h'.get? a=some q:=let ⟨q,_,_,hq,_⟩:=Xo; ⟨q,hq⟩;exact rF I (by rw[e]; exact True.intro) hs he (Hz hl hd (rel.put k rv) Xo)
 ·subst ey eH;cases(show u=Value.ref b from ry);obtain⟨z,hd,xs,rel,dd⟩:=aaG I.hok e;have hz:xs.length<=sizeLine:=by rw[<- Paired.length rel]; exact z
  have hl:(putK kvs k v).length<=sizeLine:=by have:=iC kvs k v; omega
  refine wpAny_setItem_heap (hsz:=hz) (tupleKind_room_in1 hu) (Ho I.hok eb) dd fun h' Xo hs=>h _ ?_;obtain⟨q,es,ep,hq,h2,h3,h4,_,h5⟩:=Xo;refine rF I (by rw[e]; exact True.intro) hs ⟨q,hq⟩ ⟨hl,hd,_,(rel.put k eb rv).keeps fun c ys ec=>?_,q,es,ep,hq,h2,h3,h4,h5⟩
  rw[aN (Z7 ec e (fun z=>nomatch z))]
  exact ec
end
section
variable {X:Cx} {pins:List (Addr×Obj)} {σ:St} {H:Hp} {s:Shared} {a:Addr} {kvs:List (Key×V)} {k:Key} {u:Value} {A:Around} {E:Value->Shared->Prop}
end
theorem Et {X:Cx} {pins:List (Addr×Obj)} {σ:St} {H:Hp} {s:Shared} {a:Addr} {y:V} {o:Option V} (I:Inv X pins σ H s) (g:lB H a y o):s.TypeIs (.ref a) "dict" := by
 rcases g with⟨kvs,k,e,_,_⟩ | ⟨kvs,k,b,e,_,_,_⟩
 ·obtain⟨_,_,vs,_,dd⟩:=Qh I.hok e;exact dd.typeIs
 ·obtain⟨_,_,xs,_,dd⟩:=Qg I.hok e;exact dd.typeIs
def Ux (td ty tv:TE) (rd:V->V->Hp->VK->Prop):TS:=fun D σ H=>td σ H fun x H1=>ty σ H1 fun y H2=>∃a v,x=.ref a/\lB H2 a y (some v) /\
 tv σ H2 fun y2 H3=>rd v y2 H3 fun z H4=>∃H5,rP H4 a y z H5/\D.nx σ H5
section
variable {X:Cx} {o i e value:Expr} {pos pos' tpos:Pos} {td ty tv:TE}
theorem RQ {op:Operator} {rd:V->V->Hp->VK->Prop} (hu:X.A.units+1<cLine) (ho:PE X o td) (hi:PE X i ty) (hv:PE X value tv) (hop:aaY X op rd)
  (ha:∀ov iv new,augStore i ov iv new=(do holding [new,ov,iv] (setItem ov iv new); release [new,ov,iv] []; pure .next)):PS X (.AugAssign (.Subscript o i tpos) op value pos) (Ux td ty tv rd):=by
 refine .mk ?_;intro pins s σ H D I h;refine wpAny_AugAssign_SubscriptAny (cI (ho pins s σ H _ I h) fun u s1 ⟨x,H1,I1,rx,q1⟩=>cI (hi pins s1 σ H1 _ I1 q1) fun iv s2 ⟨y,H2,I2,ry,a,v,ex,g,q2⟩=>?_) ha;subst ex;obtain rfl:u=Value.ref a:=rx;refine zL hu I2 g ry fun w' s3 I3 Df=>cI (hv pins s3 σ H2 _ I3 q2) fun w2 s4 ⟨y2,H3,I4,ry2,q3⟩=>cI (hop pins s4 σ H3 v y2 w' w2 _ I4 Df ry2 q3) fun w3 s5 qx=>?_;obtain⟨z,H4,I5,rz,H5,g5,q4⟩:=qx;exact zH hu I5 g5 ry rz fun s6 I6=>⟨σ,H5,I6,q4⟩
end
theorem Es {P:Program} {w:World} {H:Hp} (h:Heap) (hb:sysModules<h.objs.size):cC P w H (h.push { cls:=.type "dict",data:=.dict #[] }) h.objs.size (.dK []):=
 ⟨gw _,beq_eq_false_iff_ne.mpr (Ne.symm (fP hb)),[],.nil,Heap.DictOf.new h⟩
section
variable {X:Cx} {pos:Pos}
end
structure M1 (X:Cx) (o:Expr) (m:Str) (apos:Pos) (e:Expr) (cpos:Pos):Prop where
 base:attributeBase o m X.env (eval o X.env)=eval o X.env
 few:((backTo cpos (starEach [e] X.env)).all (fun x=>!x.1)&&(backToKw cpos (keywordEach [] X.env)).all (fun x=>x.1.isSome)
  && decide (([e]:List Expr).length+([]:List Keyword).length+(if([]:List Keyword).isEmpty then 0 else 1)<30))=true
 line:(apos.endLine==cpos.line)=true
 trees:backTo cpos (starEach [e] X.env)=[(false,eval e X.env)]
structure M2 (X:Cx) (o:Expr) (m:Str) (apos:Pos) (e f:Expr) (cpos:Pos):Prop where
 base:attributeBase o m X.env (eval o X.env)=eval o X.env
 few:((backTo cpos (starEach [e,f] X.env)).all (fun x=>!x.1)&&(backToKw cpos (keywordEach [] X.env)).all (fun x=>x.1.isSome)
  && decide (([e,f]:List Expr).length+([]:List Keyword).length+(if([]:List Keyword).isEmpty then 0 else 1)<30))=true
 line:(apos.endLine==cpos.line)=true
 trees:backTo cpos (starEach [e,f] X.env)=[(false,eval e X.env),(false,eval f X.env)]
section
variable {X:Cx} {pins:List (Addr×Obj)} {σ:St} {H:Hp} {s:Shared} {a:Addr} {y d:V} {u r:Value} {o:Option V} {A:Around} {E:Value->Shared->Prop}
end
section
variable {X:Cx} {o e f:Expr} {apos cpos:Pos} {td ty tx:TE}
end
section
variable {X:Cx} {pins:List (Addr×Obj)} {σ:St} {H:Hp} {s:Shared} {a:Addr} {kvs:List (Key×V)} {A:Around} {E:Value->Shared->Prop}
end
section
variable {X:Cx} {pins:List (Addr×Obj)} {σ:St} {H:Hp} {s:Shared} {a:Addr} {y:V} {u:Value} {A:Around} {E:Value->Shared->Prop}
end
end L2
set_option maxHeartbeats 4000000
namespace L2
open PySem PySem.Spec PyProof.Rows
def jz (env:Env) (cs:List (Str×Addr)) (y:Str×NameKind):List (Str×Addr):=
 if y.2==.free then(match env.cells.lookup y.1 with | some c=>(y.1,c)::cs | none=>cs) else cs
def qt (sc:Scope) (env:Env):List (Str×Addr):=sc.names.foldl (jz env) []
theorem Ew {env:Env}:∀(ns:List (Str×NameKind)) (acc:List (Str×Addr)),(∀y c,acc.lookup y=some c->env.cells.lookup y=some c)->∀y c,(ns.foldl (jz env) acc).lookup y=some c->env.cells.lookup y=some c
 | [],acc,h,y,c,e=>h y c e
 | n::ns,acc,h,y,c,e=>by
  refine Ew ns (jz env acc n) (fun z d q=>?_) y c e;unfold jz at q;split at q
  ·split at q
   ·rename_i c' hc';rw[sZ] at q;split at q
    ·rename_i hz;have hz':z=n.1:=by simpa using hz
     cases q;rw[hz']; exact hc'
    ·exact h z d q
   ·exact h z d q
  ·exact h z d q
theorem ie {sc:Scope} {env:Env} {y:Str} {c:Addr} (e:(qt sc env).lookup y=some c):env.cells.lookup y=some c:=
 Ew sc.names [] (fun _ _ q=>by simp at q) y c e
theorem J5 {env:Env} {y:Str} {c:Addr} (hc:env.cells.lookup y=some c):∀(ns:List (Str×NameKind)) (acc:List (Str×Addr)),acc.lookup y=some c->(ns.foldl (jz env) acc).lookup y=some c
 | [],acc,h=>h
 | n::ns,acc,h=>by
  refine J5 hc ns (jz env acc n) ?_;unfold jz;split
  ·split
   ·rename_i c' hc';rw[sZ];split
    ·rename_i hz;have hz':y=n.1:=by simpa using hz
     rw[<- hz',hc] at hc';exact hc'.symm
    ·exact h
   ·exact h
  ·exact h
theorem HJ {env:Env} {y:Str} {c:Addr} (hc:env.cells.lookup y=some c):∀(ns:List (Str×NameKind)) (acc:List (Str×Addr)),(y,NameKind.free)∈ns->(ns.foldl (jz env) acc).lookup y=some c
 | [],_,h=>by simp at h
 | n::ns,acc,h=>by
  rcases bI.mp h with e | h
  ·subst e;refine J5 hc ns _ ?_;unfold jz;simp[hc]
  ·exact HJ hc ns _ h
theorem uf {sc:Scope} {env:Env} {x:Str} {k':NameKind} (h:(relabel sc env).names.lookup x=some k'):∃k,(x,k)∈sc.names/\(k'=k\/(k=.free/\k'=.cell)):=by
 have m:=PySem.mem_of_lookup h;unfold relabel at m;obtain⟨⟨n,k⟩,hm,e⟩:=du.mp m;dsimp only at e;split at e
 ·rename_i hc;injection e with e1 e2
  subst e1;refine⟨k,hm,.inr ⟨?_,e2.symm⟩⟩
  have:(k==NameKind.free)=true:=by
   cases hk:(k==NameKind.free) with
   | true=>rfl
   | false=>rw[hk] at hc; simp at hc
  exact beq_iff_eq.mp this
 ·injection e with e1 e2
  subst e1 e2;exact⟨k,hm,.inl rfl⟩
theorem qR {env:Env} {x:Str} (hf:env.scope.kind=.function) (hk:env.kindOf x=some .cell):∀(ns:List (Str×NameKind)),ns.lookup x=some .free ->
  (ns.map fun(y:Str×NameKind)=>if(y.2==.free&&env.scope.kind==.function&&env.kindOf y.1==some .cell) then(y.1,NameKind.cell) else(y.1,y.2)).lookup x=some .cell
 | [],h=>by simp at h
 | (n,k)::r,h=>by
  have ih:=qR hf hk r;rw[iB];cases hx:x==n with
  | true=>
   have e:x=n:=by simpa using hx
   subst e;simp only[sZ,beq_self_eq_true] at h;cases h;dsimp only;rw[bu (by simp[hf,hk])]
   simp[sZ]
  | false=>
   simp only[sZ,hx] at h;dsimp only;split
   ·simp only[sZ,hx]; exact ih h
   ·simp only[sZ,hx]; exact ih h
def QZ (X:Cx) (N':List Str) (sc:Scope) (fp:List Addr) (s:Shared) (H:Hp):Cx where
 prog:=X.prog
 w:=X.w
 K:=X.K
 mg:=X.mg
 base:=X.base
 A:=X.A
 N:=N'
 s₀:=s
 H₀:=H
 env:=compEnvC sc (qt sc X.env) s.heap.objs.size X.env
 outer:=X.stack
 stack:=X.stack
 ex:=fp
 fn:=fun _=>false
 calm:=X.calm
 pn:=[]
 xe:=fun _ _=>False
structure qC (X:Cx) (N':List Str) (js:List Nat) (sc:Scope):Prop where
 kind:sc.kind=.function
 lN:∀y∈sc.names,y.2≠.cell
 names:∀y∈sc.names,y.2=.local->sc.names.lookup y.1=some .local
 clos:closureFor sc X.env=pure (qt sc X.env)
 all:(sc.names.all fun y=>y.2 != .free || (X.env.cells.lookup y.1).isSome)=true
 len:N'.length=js.length+1
 cap:∀(i j:Nat),js[i]?=some j->N'[i+1]?=X.N[j]?
 Qo:∀y∈N'.tail,X.env.kindOf y=some .cell/\sc.names.lookup y=some .free
def b7 (js:List Nat) (σ:St):St:=js.map fun j=>(σ[j]?).join
def gQ (js:List Nat) (wi:TI) (te:TE):TE:=fun σ H Q=>wi σ H fun J H1=>∀acc,H1 acc=none->∃W:Nat->Nat->List V->Hp->Prop,(∃m,W 0 m [] (upd H1 acc (.lst [])))/\∀i m ys H2,W i m ys H2 ->
 (J.stop i H2/\Q (.ref acc) H2)\/(J.go i H2/\∀x H3,J.CN i H2 x H3->te (some x::b7 js σ) H3 fun y H4=>H4 acc=some (.lst ys)/\ys.length<sizeLine/\∃m',m'<m/\W (i+1) m' (ys++[y]) (upd H4 acc (.lst (ys++[y]))))
def acW:Key->PyData
 | .inl i=>.int i
 | .inr x=>.str x
mutual
def At (H:Hp):PyData->V->Prop
 | .none,v=>v=.non
 | .bool b,v=>v=.bl b
 | .int i,v=>v=.int i
 | .str x,v=>v=.str x
 | .tuple ds,v=>∃a xs,v=.ref a/\H a=some (.tup xs)/\aj H ds xs
 | .list ds,v=>∃a xs,v=.ref a/\H a=some (.lst xs)/\aj H ds xs
 | .dict kvs,v=>∃a es,v=.ref a/\H a=some (.dK es)/\Cw H kvs es
def aj (H:Hp):List PyData->List V->Prop
 | [],xs=>xs=[]
 | d::ds,xs=>∃x r,xs=x::r/\At H d x/\aj H ds r
def Cw (H:Hp):List (PyData×PyData)->List (Key×V)->Prop
 | [],es=>es=[]
 | (k,d)::r,es=>∃q v t,es=(q,v)::t/\k=acW q/\At H d v/\Cw H r t
end
mutual
theorem At.mono {H H':Hp} (m:aP H H'):∀(d:PyData) (v:V),At H d v->At H' d v
 | .none,_,h=>by unfold At at h ⊢; exact h
 | .bool _,_,h=>by unfold At at h ⊢; exact h
 | .int _,_,h=>by unfold At at h ⊢; exact h
 | .str _,_,h=>by unfold At at h ⊢; exact h
 | .tuple ds,v,h=>by
  unfold At at h ⊢;obtain⟨a,xs,e,h1,h2⟩:=h;exact⟨a,xs,e,m _ _ h1,aj.mono m ds xs h2⟩
 | .list ds,v,h=>by
  unfold At at h ⊢;obtain⟨a,xs,e,h1,h2⟩:=h;exact⟨a,xs,e,m _ _ h1,aj.mono m ds xs h2⟩
 | .dict kvs,v,h=>by
  unfold At at h ⊢;obtain⟨a,es,e,h1,h2⟩:=h;exact⟨a,es,e,m _ _ h1,Cw.mono m kvs es h2⟩
theorem aj.mono {H H':Hp} (m:aP H H'):∀(ds:List PyData) (xs:List V),aj H ds xs->aj H' ds xs
 | [],_,h=>by unfold aj at h ⊢; exact h
 | d::ds,xs,h=>by
  unfold aj at h ⊢;obtain⟨x,r,e,h1,h2⟩:=h;exact⟨x,r,e,At.mono m d x h1,aj.mono m ds r h2⟩
theorem Cw.mono {H H':Hp} (m:aP H H'):∀(kvs:List (PyData×PyData)) (es:List (Key×V)),Cw H kvs es->Cw H' kvs es
 | [],_,h=>by unfold Cw at h ⊢; exact h
 | (k,d)::r,es,h=>by
  unfold Cw at h ⊢;obtain⟨q,v,t,e,e',h1,h2⟩:=h;exact⟨q,v,t,e,e',At.mono m d v h1,Cw.mono m r t h2⟩
end
theorem aj.length {H:Hp}:∀{ds:List PyData} {xs:List V},aj H ds xs->xs.length=ds.length
 | [],xs,h=>by unfold aj at h; rw[h]; rfl
 | d::ds,xs,h=>by
  unfold aj at h;obtain⟨x,r,e,_,h2⟩:=h;rw[e,gZ,gZ,aj.length h2]
theorem aj.get {H:Hp}:∀{ds:List PyData} {xs:List V} {i:Nat} {x:V},aj H ds xs->xs[i]?=some x->∃d,ds[i]?=some d/\At H d x
 | [],xs,i,x,h,e=>by unfold aj at h; rw[h] at e; simp at e
 | d::ds,xs,i,x,h,e=>by
  unfold aj at h;obtain⟨y,r,e1,h1,h2⟩:=h;subst e1;cases i with
  | zero=>simp at e; subst e; exact⟨d,rfl,h1⟩
  | succ i=>
   obtain⟨d',q1,q2⟩:=aj.get (i:=i) (x:=x) h2 (by simpa using e)
   exact⟨d',by simpa using q1,q2⟩
theorem aj.append {H:Hp}:∀{ds es:List PyData} {xs ys:List V},aj H ds xs->aj H es ys->aj H (ds++es) (xs++ys)
 | [],es,xs,ys,h,q=>by unfold aj at h; subst h; exact q
 | d::ds,es,xs,ys,h,q=>by
  unfold aj at h;obtain⟨x,r,e,h1,h2⟩:=h;subst e;show aj H (d::(ds++es)) (x::(r++ys));unfold aj;exact⟨x,r++ys,rfl,h1,aj.append h2 q⟩
theorem aj.take {H:Hp}:∀{ds:List PyData} {xs:List V} (n:Nat),aj H ds xs->aj H (ds.take n) (xs.take n)
 | ds,xs,0,h=>by simp[aj]
 | [],xs,n+1,h=>by unfold aj at h; subst h; simp[aj]
 | d::ds,xs,n+1,h=>by
  unfold aj at h;obtain⟨x,r,e,h1,h2⟩:=h;subst e;show aj H (d::ds.take n) (x::r.take n);unfold aj;exact⟨x,_,rfl,h1,aj.take n h2⟩
theorem aj.nil {H:Hp}:aj H [] []:=by unfold aj; rfl
theorem aj.cons {H:Hp} {d:PyData} {ds:List PyData} {x:V} {xs:List V} (h1:At H d x) (h2:aj H ds xs):aj H (d::ds) (x::xs):=by
 unfold aj; exact⟨x,xs,rfl,h1,h2⟩
theorem At.tup {H:Hp} {a:Addr} {xs:List V} {ds:List PyData} (h:H a=some (.tup xs)) (q:aj H ds xs):At H (.tuple ds) (.ref a):=by
 unfold At; exact⟨a,xs,rfl,h,q⟩
theorem At.lst {H:Hp} {a:Addr} {xs:List V} {ds:List PyData} (h:H a=some (.lst xs)) (q:aj H ds xs):At H (.list ds) (.ref a):=by
 unfold At; exact⟨a,xs,rfl,h,q⟩
theorem At.int {H:Hp} (i:Int):At H (.int i) (.int i):=by unfold At; rfl
theorem At.str {H:Hp} (x:Str):At H (.str x) (.str x):=by unfold At; rfl
theorem At.bool {H:Hp} (b:Bool):At H (.bool b) (.bl b):=by unfold At; rfl
theorem aQ {H:Hp} {p:Addr} (h:H p=none) (o:HO):aP H (upd H p o):=fun b u q=>by rw[aN (cG q h)]; exact q
def QL:PyData->String
 | .none=>"NoneType"
 | .bool _=>"bool"
 | .int _=>"int"
 | .str _=>"str"
 | .tuple _=>"tuple"
 | .list _=>"list"
 | .dict _=>"dict"
theorem At.ty {K:PySem.W.Frag} {H:Hp} {d:PyData} {v:V} (h:At H d v):rO K H v (.type (QL d)):=by
 cases d with
 | none=>unfold At at h; subst h; exact .non
 | bool b=>unfold At at h; subst h; exact .bl b
 | int i=>unfold At at h; subst h; exact .int i
 | str x=>unfold At at h; subst h; exact .str x
 | tuple ds=>unfold At at h; obtain⟨a,xs,e,h1,_⟩:=h; subst e; exact .tup h1
 | list ds=>unfold At at h; obtain⟨a,xs,e,h1,_⟩:=h; subst e; exact .lst h1
 | dict ds=>unfold At at h; obtain⟨a,xs,e,h1,_⟩:=h; subst e; exact .dK h1
def isInt:PyData->Bool
 | .int _=>true
 | .bool _=>true
 | _=>false
def isTup:PyData->Bool
 | .tuple _=>true
 | _=>false
def isBool:PyData->Bool
 | .bool _=>true
 | _=>false
def isStr:PyData->Bool
 | .str _=>true
 | _=>false
theorem S6 (K:PySem.W.Frag) (d:PyData):PySem.W.kitOne K (.type (QL d)) (.type "int")=some (isInt d):=by cases d <;> kernel_rfl
theorem JF (K:PySem.W.Frag) (d:PyData):PySem.W.kitOne K (.type (QL d)) (.type "tuple")=some (isTup d):=by cases d <;> kernel_rfl
theorem Pq (K:PySem.W.Frag) (d:PyData):PySem.W.kitOne K (.type (QL d)) (.type "bool")=some (isBool d):=by cases d <;> kernel_rfl
theorem S5 (K:PySem.W.Frag) (d:PyData):PySem.W.kitOne K (.type (QL d)) (.type "str")=some (isStr d):=by cases d <;> kernel_rfl
section
variable {X:Cx}
def Gq (T:String) (f:PyData->Bool):List V->Hp->VK->Prop:=fun vs H Q=>∃v d,vs=[v,.ty T]/\At H d v/\Q (.bl (f d)) H
theorem wR {T:String} {f:PyData->Bool} (hf:∀K d,PySem.W.kitOne K (.type (QL d)) (.type T)=some (f d)):cZ X (.builtin "isinstance") (Gq T f):=by
 refine .mk ?_;intro pins s σ H vs us Q I r h;obtain⟨v,d,rfl,hv,q⟩:=h;obtain⟨u,t,rfl,ru,rt⟩:=r.two;cases(show t=Value.type T from rt);exact Lr I ru (hv.ty (K:=X.K)) (hf X.K d) fun tk=>⟨.bl (f d),H,I.tok tk,rfl,q⟩
theorem S_:cZ X (.builtin "isinstance") (Gq "int" isInt):=wR S6
theorem JN:cZ X (.builtin "isinstance") (Gq "tuple" isTup):=wR JF
theorem Pu:cZ X (.builtin "isinstance") (Gq "bool" isBool):=wR Pq
theorem uR:cZ X (.builtin "isinstance") (Gq "str" isStr):=wR S5
theorem Ip:∀{bs:List Bool} {us:List Value},Vals (bs.map V.bl) us->us=bs.map Value.bool
 | [],_,.nil=>rfl
 | b::bs,_,.cons r t=>by
  cases(show _=Value.bool b from r);rw[Ip t]; rfl
theorem range_all (bs:List Bool):(List.range bs.length).all (fun i=>bs.getD i false)=bs.all id:=by
 rw[DG,oX,oX];constructor
 ·intro h b hb;obtain⟨i,hi,rfl⟩:=List.mem_iff_getElem.mp hb;have:=h i (List.mem_range.mpr hi);simpa[lC,hi] using this
 ·intro h i hi;have hi':=List.mem_range.mp hi;have:=h bs[i] (nu hi');simpa[lC,hi'] using this
theorem lq (hc:X.calm=true):cZ X (.builtin "all") (fun vs H Q=>∃(p:Addr) (bs:List Bool),vs=[.ref p]/\H p=some (.lst (bs.map V.bl))/\Q (.bl (bs.all id)) H):=by
 refine .mk ?_;intro pins s σ H vs us Q I r h;obtain⟨p,bs,rfl,hp,q⟩:=h;obtain⟨u,rfl,ru⟩:=r.one;cases ru;obtain⟨z,its,n,rv,e⟩:=I.hok p _ hp;have e2:=Ip rv;subst e2;have hl:s.heap.IsList p (bs.map Value.bool).toArray:=⟨_,e,rfl,n,rfl⟩;have lt:p<s.heap.objs.size:=cz e;refine call_all_walk (Gz hl ?_);refine⟨_,_,_,_,_,_,fun i=>bs.getD i false,rfl,Walks.list (A:=X.A.in1) (I.ok.hd hc) _ p (fP lt) _,⟨⟨_,dw _ rfl,rfl,rfl⟩,hl.push _⟩,fun i v s' Q' E' hv hq=>?_,fun h' tk hk=>?_⟩
 ·have hv':(bs.map Value.bool).toArray[i]?=some v:=hv
  have:v=.bool (bs.getD i false):=by
   simp only[List.getElem?_toArray,cJ] at hv';cases q:bs[i]? with
   | none=>rw[q] at hv'; simp at hv'
   | some b=>rw[q] at hv'; simp at hv'; simp[lC,q,<- hv']
  rw[this];exact Dn hq
 ·have e3:(List.range (bs.map Value.bool).toArray.size).all (fun i=>bs.getD i false)=bs.all id:=by
   rw[fu,bZ]; exact range_all bs
  refine⟨.bl (bs.all id),H,I.kept (t':=tk) (fun b o eb=>?_),by rw[<- e3]; rfl,q⟩
  exact hk b o (by simpa using fP (cz eb)) (dW _ eb)
theorem DY:∀(ns:List Int),preSum (fun i=>ns.getD i 0) ns.length=ns.sum:=by
 have key:∀(ns:List Int) (k:Nat),k<=ns.length->preSum (fun i=>ns.getD i 0) k=(ns.take k).sum:=by
  intro ns k
  induction k with
  | zero=>intro _; rfl
  | succ k ih=>
   intro hk
   have e:ns.take (k+1)=ns.take k++[ns.getD k 0]:=by
    rw[List.take_succ,dN (by omega)]
    simp[lC,dN (show k<ns.length by omega)]
   show preSum _ k+ns.getD k 0=_;rw[ih (by omega),e,List.sum_append]
   simp
 intro ns;rw[key ns ns.length (bL _),pY]
theorem JQ {ns:List Int} {its:List Value} (r:Vals (ns.map V.int) its) {i:Nat} {v:Value} (h:its.toArray[i]?=some v):∃t,v=.int (ns.getD i 0) t:=by
 have h':its[i]?=some v:=by simpa using h
 have hi:i<its.length:=(iT.mp h').1;have hl:=r.length;rw[bZ] at hl;obtain⟨u,hu,ru⟩:=r.get (i:=i) (x:=V.int (ns[i]'(by omega))) (by rw[cJ,dN (by omega)]; rfl)
 rw[h'] at hu;cases hu;obtain⟨t,e⟩:=ru;exact⟨t,by rw[e,lC,dN (by omega)]; rfl⟩
theorem gb (hc:X.calm=true):cZ X (.builtin "sum") (fun vs H Q=>∃(p:Addr) (ns:List Int),vs=[.ref p]/\(H p=some (.lst (ns.map V.int))\/H p=some (.tup (ns.map V.int)))/\Q (.int ns.sum) H):=by
 refine .mk ?_;intro pins s σ H vs us Q I r h;obtain⟨p,ns,rfl,hp,q⟩:=h;obtain⟨u,rfl,ru⟩:=r.one;cases ru
 have fin:∀{h':Heap} {tk:Nat} {t':Tok} {o:Obj},(∀b o',b∉[s.heap.objs.size]->(s.heap.push o).get? b=some o'->h'.get? b=some o')->EP X pins σ Q (.int (preSum (fun i=>ns.getD i 0) ns.length) t') { s with heap:=h',toks:=tk }:=fun {h' tk t' o} hk=>
  ⟨.int ns.sum,H,I.kept (t':=tk) (fun b o' eb=>hk b o' (by simpa using fP (cz eb)) (dW _ eb)),⟨t',by rw[DY]⟩,q⟩
 rcases hp with hp | hp
 ·obtain⟨z,its,n,rv,e⟩:=I.hok p _ hp;have hl:s.heap.IsList p its.toArray:=⟨_,e,rfl,n,rfl⟩;have lt:p<s.heap.objs.size:=cz e;have hlen:=rv.length;rw[bZ] at hlen;refine call_sum_walkG (Gz hl ?_);refine⟨_,_,_,_,_,_,fun i=>ns.getD i 0,rfl,Walks.list (A:=X.A.in1) (I.ok.hd hc) _ p (fP lt) _,⟨⟨_,dw _ rfl,rfl,rfl⟩,hl.push _⟩,fun b hb=>?_,fun i v hv=>JQ rv hv,fun h' tk t' hk=>?_⟩
  ·show b<(s.heap.push _).objs.size;rw[gK];rcases bI.mp hb with rfl | hb
   ·exact Dk _
   ·rw[gJ.mp hb]; exact Dm lt
  ·rw[fu,<- hlen]; exact fin hk
 ·obtain⟨z,its,rv,ht⟩:=I.hok p _ hp;have ht':s.heap.IsTuple p its.toArray:=ht;have lt:p<s.heap.objs.size:=by obtain⟨o,e,_⟩:=ht; exact cz e
  have hlen:=rv.length;rw[bZ] at hlen;refine call_sum_walkG (Jm ht' ?_);refine⟨_,_,_,_,_,_,fun i=>ns.getD i 0,rfl,Walks.tuple (A:=X.A.in1) (I.ok.hd hc) _ p (fP lt) _,⟨⟨_,dw _ rfl,rfl,rfl⟩,?_⟩,fun b hb=>?_,fun i v hv=>JQ rv hv,fun h' tk t' hk=>?_⟩
  ·obtain⟨o,e,c⟩:=ht';exact⟨o,dW _ e,c⟩
  ·show b<(s.heap.push _).objs.size;rw[gK];rcases bI.mp hb with rfl | hb
   ·exact Dk _
   ·rw[gJ.mp hb]; exact Dm lt
  ·rw[fu,<- hlen]; exact fin hk
theorem zR:cZ X (.type "int") (fun vs H Q=>∃(b:Bool),vs=[.bl b]/\Q (.int (if b then 1 else 0)) H):=by
 refine .mk ?_;intro pins s σ H vs us Q I r h;obtain⟨b,rfl,q⟩:=h;obtain⟨u,rfl,ru⟩:=r.one;cases(show u=Value.bool b from ru);exact call_int_bool ⟨.int (if b then 1 else 0),H,I.tok _,⟨_,rfl⟩,q⟩
end
mutual
theorem nj {P:Program} {w:World} {H:Hp} {h:Heap} (ok:nY P w H h):∀(d:PyData) (v:V) (u:Value),At H d v->RelV v u->d.hasDict=false->∃as,Reads h u d as
 | .none,v,u,a,r,_=>by unfold At at a; subst a; cases r; exact⟨_,.none⟩
 | .bool b,v,u,a,r,_=>by unfold At at a; subst a; cases r; exact⟨_,.bool b⟩
 | .int i,v,u,a,r,_=>by unfold At at a; subst a; obtain⟨t,rfl⟩:=r; exact⟨_,.int i t⟩
 | .str x,v,u,a,r,_=>by unfold At at a; subst a; obtain⟨t,rfl⟩:=r; exact⟨_,.str x t⟩
 | .tuple ds,v,u,a,r,nd=>by
  unfold At at a;obtain⟨p,xs,e,hp,ha⟩:=a;subst e;cases r;obtain⟨_,its,rv,o,e1,e2,n,e3⟩:=ok p _ hp;obtain⟨as,ra⟩:=sW ok ds xs its ha rv (by simpa[PyData.hasDict] using nd)
  exact⟨_,.tuple e1 e2 e3 (by simpa using ra)⟩
 | .list ds,v,u,a,r,nd=>by
  unfold At at a;obtain⟨p,xs,e,hp,ha⟩:=a;subst e;cases r;obtain⟨_,its,n,rv,e1⟩:=ok p _ hp;obtain⟨as,ra⟩:=sW ok ds xs its ha rv (by simpa[PyData.hasDict] using nd)
  exact⟨_,.list e1 rfl rfl (by simpa using ra)⟩
 | .dict kvs,v,u,a,r,nd=>by simp[PyData.hasDict] at nd
theorem sW {P:Program} {w:World} {H:Hp} {h:Heap} (ok:nY P w H h):∀(ds:List PyData) (xs:List V) (us:List Value),aj H ds xs->Vals xs us->PyData.hasDictAll ds=false->∃as,ReadsAll h us ds as
 | [],xs,us,a,r,_=>by unfold aj at a; subst a; cases r; exact⟨_,.nil⟩
 | d::ds,xs,us,a,r,nd=>by
  unfold aj at a;obtain⟨x,t,e,h1,h2⟩:=a;subst e;have X7:d.hasDict=false/\PyData.hasDictAll ds=false:=by simpa[PyData.hasDictAll] using nd
  cases r with
  | cons r1 r2=>
   obtain⟨as,q1⟩:=nj ok d x _ h1 r1 X7.1;obtain⟨bs,q2⟩:=sW ok ds t _ h2 r2 X7.2;exact⟨_,.cons q1 q2⟩
end
structure afZ (d:PyData):Prop where
 can:d.showable=true
 nod:d.hasDict=false
 len:d.shown.length<=sizeLine
 dep:d.depth<=60
section
variable {X:Cx}
def Gi (mg:Str->Option Value) (x:Str) (i:Int):Prop:=∃t,mg x=some (.int i t)
theorem Ar {x:Str} {i:Int} {pos:Pos} (h:Gi X.mg x i) (hg:Gl X x:=by rfl) (hd:(x==("__debug__" : Str))=false:=by decide):PE X (.Name x pos) (tC (.int i)):=by
 obtain⟨t,ht⟩:=h;exact Av hg ht ⟨t,rfl⟩ hd
structure Ct (P:Program) (w:World) (K:PySem.W.Frag) (mg:Str->Option Value) (base:Heap) (k:Nat) (x:Str) (ps:List Str) (sp:Sp) where
 f:Addr
 fd:FuncData
 G:bJ P w K mg base gf k f fd ps sp
 kp:PySem.W.keepIn K (.ref f)=true
 b:Binds K fd ps []
 m:mg x=some (.ref f)
def Ct.mono {P:Program} {w:World} {K:PySem.W.Frag} {mg:Str->Option Value} {base:Heap} {j k:Nat} {x:Str} {ps:List Str} {sp:Sp} (c:Ct P w K mg base j x ps sp) (h:j<=k):Ct P w K mg base k x ps sp:={ c with G:=c.G.mono h }
theorem ZX {k:Nat} {x:Str} {ps:List Str} {sp:Sp} {e:Expr} {es:List Expr} {t:TA} {p pos:Pos} (c:Ct X.prog X.w X.K X.mg X.base k x ps sp) (hr:fU k X.A) (ha:PA X (e::es) t) (hg:Gl X x:=by rfl)
  (hdb:(x==("__debug__" : Str))=false:=by decide) (he:starEach (e::es) X.env=(false,eval e X.env)::starEach es X.env:=by rfl) (hpl:(backTo pos (starEach es X.env)).any (·.1)=false:=by rfl) :
  PE X (.Call (.Name x p) (e::es) [] pos) (mQ sp [] E0 t):=Jv c.G hr hg c.m c.kp c.b .nil D_ ha hdb he hpl
end
theorem Rx {v:V} {σ:St} {H:Hp} {Q:VK}:uw 0 (some v::σ) H Q=Q v H:=rfl
theorem Rv {i:Nat} {o:Option V} {σ:St} {H:Hp} {Q:VK}:uw (i+1) (o::σ) H Q=uw i σ H Q:=rfl
theorem RB {v:V} {o:Option V} {σ:St}:(o::σ).set 0 (some v)=some v::σ:=rfl
theorem Rz {i:Nat} {v:V} {o:Option V} {σ:St}:(o::σ).set (i+1) (some v)=o::σ.set i (some v):=rfl
theorem Og {t:TG} {u:QD} {v:V} {r:List V} {σ:St} {H:Hp} {Q:St->Hp->Prop}:jN t u (v::r) σ H Q=t v σ H fun σ' H'=>u r σ' H' Q:=rfl
theorem RC {σ:St} {H:Hp} {Q:St->Hp->Prop}:Bw [] σ H Q=Q σ H:=rfl
theorem cT {b:Bool} {A B:Prop} (h1:b=true->A) (h2:b=false->B):if b=true then A else B:=by
 cases b
 ·rw[aZ (by decide)]; exact h2 rfl
 ·rw[bu rfl]; exact h1 rfl
theorem V6 {i j:Int} {H:Hp} {Q:VK}:ZM (.int i) (.int j) H Q=Q (.bl (decide (i=j))) H:=by
 unfold ZM Kz; simp
theorem V3 {i j:Int} {H:Hp} {Q:VK}:ZD (.int i) (.int j) H Q=Q (.bl (!decide (i=j))) H:=by
 unfold ZD Kz; simp
theorem V5 {i j:Str} {H:Hp} {Q:VK}:ZM (.str i) (.str j) H Q=Q (.bl (decide (i=j))) H:=by
 unfold ZM Kz; simp
theorem V2 {i j:Str} {H:Hp} {Q:VK}:ZD (.str i) (.str j) H Q=Q (.bl (!decide (i=j))) H:=by
 unfold ZD Kz; simp
theorem RD {i:Int} {P:Int->Prop}:(∃k,[V.int i]=[V.int k]/\P k)=P i:=by
 simp
theorem RG {i:Bool} {P:Bool->Prop}:(∃k,[V.bl i]=[V.bl k]/\P k)=P i:=by
 simp
theorem Oh {i j:Int} {P:Int->Int->Prop}:(∃a b,[V.int i,V.int j]=[V.int a,V.int b]/\P a b)=P i j:=by
 refine propext ⟨?_,fun h=>⟨i,j,rfl,h⟩⟩;rintro⟨a,b,e,h⟩;cases e;exact h
theorem Ry {b:Bool} {P:Bool->Prop}:(∃k,V.bl b=V.bl k/\P k)=P b:=by
 simp
theorem V4 {i:Int} {P:Int->Prop}:(∃k,V.int i=V.int k/\P k)=P i:=by
 simp
theorem Zx {i j:Int} {P:Int->Int->Prop}:(∃a b,V.int i=V.int a/\V.int j=V.int b/\P a b)=P i j:=by
 simp
theorem uq {α β:Type} {g:β->α->β} {f:α->β->Sem (ForInStep β)}:∀(l:List α) (c:β),(∀x∈l,∀c,f x c=pure (.yield (g c x)))->forIn l c f=(pure (l.foldl g c):Sem β)
 | [],c,_=>rfl
 | x::l,c,h=>by
  rw[Dj,h x iV c,pure_bind];exact uq l (g c x) fun y hy=>h y (g8 _ hy)
theorem jy {sc:Scope} {env:Env} (h:(sc.names.all fun y=>y.2 != .free || (env.cells.lookup y.1).isSome)=true):closureFor sc env=pure (qt sc env):=by
 unfold closureFor qt;dsimp only;rw[uq (g:=jz env) sc.names [] (fun y hy c=>?_)]
 ·rfl
 obtain⟨n,k⟩:=y;have a:=oX.mp h _ hy;dsimp only;unfold jz;dsimp only;cases hk:(k==NameKind.free) with
 | false=>simp
 | true=>
  have hk':k=.free:=beq_iff_eq.mp hk;subst hk';have a':(env.cells.lookup n).isSome=true:=by simpa using a
  obtain⟨c',hc'⟩:=Oo.mp a';simp[cellOf,hc']
theorem nG {sc:Scope} (h:(sc.names.all fun y=>y.2 != .local || sc.names.lookup y.1==some .local)=true):∀y∈sc.names,y.2=.local->sc.names.lookup y.1=some .local:=fun y hy e=>by
 have a:=oX.mp h y hy;rw[e] at a;simpa using a
theorem qC.U3 {X:Cx} {x:Str} {sc:Scope} (k:sc.kind=.function:=by rfl) (n:(sc.names.all fun y=>y.2 != .cell&&y.2 != .free)=true:=by decide +kernel) (l:(sc.names.all fun y=>y.2 != .local || sc.names.lookup y.1==some .local)=true:=by decide +kernel):qC X [x] [] sc:=by
 have n':∀y∈sc.names,y.2≠.cell/\y.2≠.free:=fun y hy=>by have:=oX.mp n y hy; simpa using this
 have al:(sc.names.all fun y=>y.2 != .free || (X.env.cells.lookup y.1).isSome)=true:=oX.mpr fun y hy=>by simp[(n' y hy).2]
 exact⟨k,fun y hy=>(n' y hy).1,nG l,jy al,al,rfl,fun i j h=>by simp at h,fun y h=>by simp at h⟩
theorem qC.mk1 {X:Cx} {x y:Str} {sc:Scope} {j:Nat} (hj:X.N[j]?=some y:=by rfl) (k:sc.kind=.function:=by rfl) (n:(sc.names.all fun y=>y.2 != .cell)=true:=by decide +kernel)
  (l:(sc.names.all fun y=>y.2 != .local || sc.names.lookup y.1==some .local)=true:=by decide +kernel) (al:(sc.names.all fun y=>y.2 != .free || (X.env.cells.lookup y.1).isSome)=true:=by rfl)
  (k1:X.env.kindOf y=some .cell:=by rfl) (k2:sc.names.lookup y=some .free:=by rfl):qC X [x,y] [j] sc:=by
 have n':∀y∈sc.names,y.2≠.cell:=fun y hy=>by have:=oX.mp n y hy; simpa using this
 refine⟨k,n',nG l,jy al,al,rfl,fun i j' h=>?_,fun z h=>?_⟩
 ·cases i with
  | zero=>simp at h; subst h; exact hj.symm
  | succ i=>simp at h
 ·have e:z=y:=by simpa using h
  subst e; exact⟨k1,k2⟩
theorem qC.mk2 {X:Cx} {x y z:Str} {sc:Scope} {j j2:Nat} (hj:X.N[j]?=some y:=by rfl) (hj2:X.N[j2]?=some z:=by rfl) (k:sc.kind=.function:=by rfl) (n:(sc.names.all fun y=>y.2 != .cell)=true:=by decide +kernel)
  (l:(sc.names.all fun y=>y.2 != .local || sc.names.lookup y.1==some .local)=true:=by decide +kernel) (al:(sc.names.all fun y=>y.2 != .free || (X.env.cells.lookup y.1).isSome)=true:=by rfl)
  (k1:X.env.kindOf y=some .cell:=by rfl) (k2:sc.names.lookup y=some .free:=by rfl) (k3:X.env.kindOf z=some .cell:=by rfl) (k4:sc.names.lookup z=some .free:=by rfl):qC X [x,y,z] [j,j2] sc:=by
 have n':∀y∈sc.names,y.2≠.cell:=fun y hy=>by have:=oX.mp n y hy; simpa using this
 refine⟨k,n',nG l,jy al,al,rfl,fun i j' h=>?_,fun v h=>?_⟩
 ·match i,h with
  | 0,h=>simp at h; subst h; exact hj.symm
  | 1,h=>simp at h; subst h; exact hj2.symm
  | i+2,h=>simp at h
 ·have e:v=y\/v=z:=by simpa using h
  rcases e with e | e
  ·subst e; exact⟨k1,k2⟩
  ·subst e; exact⟨k3,k4⟩
def b8:Expr->Bool
 | .Starred _ _=>false
 | _=>true
theorem cB {env:Env} {e:Expr} {es:List Expr} (h:b8 e=true):starEach (e::es) env=(false,eval e env)::starEach es env:=by
 cases e <;> first | rfl | exact absurd h (by simp[b8])
theorem cM {env:Env} {pos:Pos}:∀{es:List Expr},es.all b8=true->(backTo pos (starEach es env)).any (·.1)=false
 | [],_=>rfl
 | e::es,h=>by
  have h':b8 e=true/\es.all b8=true:=by simpa using h
  rw[cB h'.1];show(false || (backTo pos (starEach es env)).any (·.1))=false;rw[cM h'.2]; rfl
section
variable {X:Cx} {x:Str} {p pos:Pos} {e:Expr} {es:List Expr} {te:TE} {t:TA} {id T:String} {r:List V->Hp->VK->Prop}
theorem ao (ha:PE X e te) (hr:PA X es t) (h:b8 e=true:=by rfl):PA X (e::es) (qH te t):=R9 ha hr (cB h)
theorem pf {k:Nat} {ps:List Str} {sp:Sp} (c:Ct X.prog X.w X.K X.mg X.base k x ps sp) (hr:fU k X.A) (ha:PA X (e::es) t) (hg:Gl X x:=by rfl) (hdb:(x==("__debug__" : Str))=false:=by decide) (h1:b8 e=true:=by rfl) (h2:es.all b8=true:=by rfl) :
  PE X (.Call (.Name x p) (e::es) [] pos) (mQ sp [] E0 t):=ZX c hr ha hg hdb (cB h1) (cM h2)
theorem pb (hc:cZ X (.builtin id) r) (hm:X.mg x=none) (hv:bootBuiltins x=some (.builtin id)) (ha:PA X (e::es) t) (hg:Gl X x:=by rfl) (hn:x ≠ "__name__" := by decide) (hdb:(x==("__debug__" : Str))=false:=by decide)
  (h1:b8 e=true:=by rfl) (h2:es.all b8=true:=by rfl):PE X (.Call (.Name x p) (e::es) [] pos) (Zb r t):=O4 hc hg hm hv ha hn hdb (cB h1) (cM h2)
theorem pt (hc:cZ X (.type T) r) (hm:X.mg x=none) (hv:bootBuiltins x=some (.type T)) (ha:PA X (e::es) t) (hg:Gl X x:=by rfl) (hn:x ≠ "__name__" := by decide) (hdb:(x==("__debug__" : Str))=false:=by decide)
  (h1:b8 e=true:=by rfl) (h2:es.all b8=true:=by rfl):PE X (.Call (.Name x p) (e::es) [] pos) (Zb r t):=KY hc hg hm hv ha hn hdb (cB h1) (cM h2)
end
end L2
namespace HT
open PySem PyProof.Rows
section
variable {prog:Program} {w:World} {A:Around} {E:Value->Shared->Prop} {s:Shared}
theorem rA {t sl:Addr} {items:Array Value} {vl vu:Value} {lo hi:Option Int} {Q:Value->Shared->Prop} (ht:IsTup s.heap t items) (hs:s.heap.IsSliceOf sl vl vu .none) (pl:IsPart vl lo) (pu:IsPart vu hi)
  (hw1:fX items.size 0 lo=0) (hw2:fX items.size items.size hi=items.size) (h:Q (.ref t) s):wpAny (model prog w) A (getItem (.ref t) (.ref sl)) Q E s:=by
 obtain⟨os,hos,hcs,hds⟩:=id hs;have tyS:s.TypeIs (.ref sl) "slice" := ⟨os,hos,hcs⟩;unfold getItem
 try with_reducible refine oV ?_
 first | refine aW (cF ?_) | skip
 refine aW (wpAny_sequenceKey ht.typeIs (by decide) ?_)
 refine aW (Dq (name:=Str.ofString "__getitem__") ht.typeIs PyProof.Rows.slot_tuple_getitem (xJ PyProof.Rows.slot_tuple_getitem ht.typeIs entry_tuple_getitem ?_ (args_tuple_getitem _ _)));show wpAny _ _ (Builtin.Tuple.tupleItemsOf (.ref t) >>= _) _ _ s;refine aW (tupleItemsOf_ ht ?_);refine aW (Dw tyS ?_);rw[bu (by decide)]
 refine aW (km hs pl pu ?_)
 have yes:(((fX items.size 0 lo:Nat):Int)==0&&(1:Int)==1&&(fX items.size items.size hi-fX items.size 0 lo)==items.size)=true:=by
  rw[hw1,hw2]; simp
 show wpAny _ _ (if(((fX items.size 0 lo:Nat):Int)==0&&(1:Int)==1&&(fX items.size items.size hi-fX items.size 0 lo)==items.size)=true then _ else _) _ _ s
 rw[bu yes]
 have ex:∀{R:Bool->Shared->Prop},R true s->wpAny (model prog w) A.in1 (Builtin.Tuple.tupleIsExact (.ref t)) R E s:=fun {R} q=>by
  unfold Builtin.Tuple.tupleIsExact;refine aW (Dw ht.typeIs (cF ?_));rw[beq_self_eq_true];exact q
 refine aW (ex ?_);rw[bu rfl];exact aW (qU (cF ⟨_,rfl,cF h⟩))
end
end HT
namespace L2
open PySem PySem.Spec PyProof.Rows
theorem bW:bootBuiltins "isinstance" = some (.builtin "isinstance"):=by decide +kernel
theorem d9:bootBuiltins "len" = some (.builtin "len"):=by decide +kernel
theorem xr:bootBuiltins "all" = some (.builtin "all"):=by decide +kernel
theorem nW:bootBuiltins "sum" = some (.builtin "sum"):=by decide +kernel
theorem Qx:bootBuiltins "abs" = some (.builtin "abs"):=by decide +kernel
theorem lU:bootBuiltins "min" = some (.builtin "min"):=by decide +kernel
theorem tX:bootBuiltins "max" = some (.builtin "max"):=by decide +kernel
theorem Ia:bootBuiltins "int" = some (.type "int"):=by decide +kernel
theorem Ci:bootBuiltins "str" = some (.type "str"):=by decide +kernel
theorem TY:bootBuiltins "bool" = some (.type "bool"):=by decide +kernel
theorem jQ:bootBuiltins "list" = some (.type "list"):=by decide +kernel
theorem gH:bootBuiltins "tuple" = some (.type "tuple"):=by decide +kernel
theorem TV:bootBuiltins "dict" = some (.type "dict"):=by decide +kernel
theorem Qw:bootBuiltins "range" = some (.type "range"):=by decide +kernel
theorem Cj:bootBuiltins "enumerate" = some (.type "enumerate"):=by decide +kernel
theorem H_:bootBuiltins "zip" = some (.type "zip"):=by decide +kernel
section
variable {X:Cx}
theorem pty {x:Str} {T:String} {pos:Pos} (hg:Gl X x) (hm:X.mg x=none) (hv:bootBuiltins x=some (.type T)) (hn:x ≠ "__name__" := by decide) (hd:(x==("__debug__" : Str))=false:=by decide):PE X (.Name x pos) (tC (.ty T)):=
 R7 (v:=.ty T) hg hm hv rfl hn hd
theorem Fx.of {T:String} {g:PyData->Bool} {v:V} {d:PyData} {H:Hp} {Q:VK} (h:At H d v) (q:Q (.bl (g d)) H):Gq T g [v,.ty T] H Q:=⟨v,d,rfl,h,q⟩
def acz (K:PySem.W.Frag):List V->Hp->VK->Prop:=fun vs H Q=>∃(p:Addr) (ys:List V),vs=[.ref p]/\(cg K H p ys\/e_ K H p ys)/\Q (.int ys.length) H
theorem cH {K:PySem.W.Frag} (hK:X.K=K):cZ X (.builtin "len") (acz K):=by
 subst hK;exact BZ
def acv:V->Option Int->Option Int->Hp->VK->Prop:=fun x lo hi H Q=>∃(a:Addr) (xs:List V),x=.ref a/\H a=some (.tup xs)/\∀p H',aP H H'->H' p=some (.tup (qp xs lo hi))->Q (.ref p) H'
theorem jH:Xz X acv:=by
 refine .mk ?_;intro pins s σ H x v vl vu lo hi sl Q I rx hs pl pu h;obtain⟨a,xs,e,hx,q⟩:=h;by_cases hw:HT.fX xs.length 0 lo=0/\HT.fX xs.length xs.length hi=xs.length
 ·subst e;cases rx;obtain⟨its,r,ht,hz⟩:=I.tuple (e_.of (K:=X.K) hx);have hlen:its.toArray.size=xs.length:=by rw[fu]; exact r.length.symm
  refine⟨"tuple",_,PyProof.Rows.slot_tuple_getitem.lookup,ht.typeIs,?_⟩;refine HT.rA ht hs pl pu (by rw[hlen]; exact hw.1) (by rw[hlen]; exact hw.2) ⟨.ref a,H,I,rfl,q a H (aP.refl H) ?_⟩
  rw[hx];unfold qp;rw[hw.1,hw.2,List.drop_zero,Nat.sub_zero,pY]
 ·exact VR pins s σ H x v vl vu lo hi sl Q I rx hs pl pu ⟨a,xs,e,e_.of hx,hw,fun p hp=>q p _ (aQ hp _) aC⟩
def ZP:R2:=fun x y H Q=>∃(a b:Addr) (xs ys:List V),x=.ref a/\y=.ref b/\H a=some (.tup xs)/\H b=some (.tup ys)/\xs.length+ys.length<=sizeLine/\∀p H',aP H H'->H' p=some (.tup (xs++ys))->Q (.ref p) H'
theorem oE:mG X (binaryOp .Add) ZP:=by
 refine .mk ?_;intro pins s σ H x y v u Q I rx ry h;obtain⟨a,b,xs,ys,e1,e2,ha,hb,hz,q⟩:=h;by_cases hx:xs=[]
 ·subst hx e1 e2;cases rx;cases ry;obtain⟨its,r1,p1,_⟩:=I.tuple (e_.of (K:=X.K) ha);obtain⟨its2,r2,p2,_⟩:=I.tuple (e_.of (K:=X.K) hb);cases r1;obtain⟨⟨cls,dd,data,sl⟩,ho,hc,n,hd⟩:=id p1;obtain⟨⟨cls2,dd2,data2,sl2⟩,ho2,hc2,n2,hd2⟩:=id p2;simp only at hc hd hc2 hd2;subst hc hd hc2 hd2;exact concat_meets ⟨_,ho,rfl⟩ ⟨_,ho2,rfl⟩ noFill_tuple_add seq_tuple_add PySem.F.slot_tuple_add PySem.F.entry_tuple_add (PySem.F.args_tuple_add_2 _ _) (tuple_addW0 a b _ _ n n2 dd dd2 sl sl2 (by rfl)) ⟨ho,ho2,⟨.ref b,H,I,rfl,q b H (aP.refl H) hb⟩⟩
 ·refine Sg pins s σ H x y v u Q I rx ry ⟨a,b,xs,ys,e1,e2,e_.of ha,e_.of hb,hx,hz,fun z=>?_,fun _ p hp=>q p _ (aQ hp _) aC⟩;subst z;exact q a H (aP.refl H) (by rw[ha,Di])
def RK:R2:=fun x y H Q=>∃(p:Addr) (xs:List V) (i:Int) (v:V),x=.ref p/\y=.int i/\(H p=some (.lst xs)\/H p=some (.tup xs))/\Cm xs i=some v/\Q v H
theorem bA:Mz X RK:=by
 have h:=(JL (X:=X)).or WW;refine .mk ?_;intro a b pins s σ H x y v u Q I rx ry q;obtain⟨p,xs,i,z,e1,e2,hp,ha,q⟩:=q;intro hs;refine h a b pins s σ H x y v u Q I rx ry ?_ hs;rcases hp with hp | hp
 ·exact .inl ⟨p,xs,i,z,e1,e2,cg.of hp,ha,q⟩
 ·exact .inr ⟨p,xs,i,z,e1,e2,e_.of hp,ha,q⟩
theorem Ix.tup {a:Addr} {xs:List V} {i:Int} {v:V} {H:Hp} {Q:VK} (h:H a=some (.tup xs)) (e:Cm xs i=some v) (q:Q v H):RK (.ref a) (.int i) H Q:=⟨a,xs,i,v,rfl,rfl,.inr h,e,q⟩
theorem Ix.lst {a:Addr} {xs:List V} {i:Int} {v:V} {H:Hp} {Q:VK} (h:H a=some (.lst xs)) (e:Cm xs i=some v) (q:Q v H):RK (.ref a) (.int i) H Q:=⟨a,xs,i,v,rfl,rfl,.inl h,e,q⟩
theorem Ql {js:List Nat} {ta:TA} {te:TE} {σ:St} {H:Hp} {Q:VK} {n:Nat} (hl:∀R:List V->Hp->Prop,R [.int n] H->ta σ H R) (hn:n<=1000000)
  (h:∀acc,H acc=none->∃Pv:Nat->List V->Hp->Prop,Pv 0 [] (upd H acc (.lst [])) /\
   (∀i ys H',i<n->Pv i ys H'->te (some (.int (0+(i:Nat)))::b7 js σ) H' fun y dC=>dC acc=some (.lst ys)/\ys.length<sizeLine/\Pv (i+1) (ys++[y]) (upd dC acc (.lst (ys++[y])))) /\
   ∀ys H',Pv n ys H'->Q (.ref acc) H'):gQ js (zm ta) te σ H Q:=by
 refine hl _ ⟨n,rfl,by omega,by omega,fun acc hacc=>?_⟩
 obtain⟨Pv,h0,hs,hd⟩:=h acc hacc;have en:((n:Int)).toNat=n:=tu n;rw[en];refine⟨fun i m ys H'=>m=n-i/\i<=n/\Pv i ys H',⟨n,rfl,gw _,h0⟩,?_⟩;rintro i m ys H2 ⟨rfl,hi,p⟩;by_cases hlt:i<n
 ·refine .inr ⟨hlt,fun x H3 y=>?_⟩;obtain⟨e,y⟩:=y;subst e y;have Uc:=hs i ys _ hlt p
  have fe:(fun(y:V) (dC:Hp)=>dC acc=some (.lst ys)/\ys.length<sizeLine/\Pv (i+1) (ys++[y]) (upd dC acc (.lst (ys++[y]))))=fun y H4=>H4 acc=some (.lst ys)/\ys.length<sizeLine/\∃m',m'<n-i/\(m'=n-(i+1)/\i+1<=n/\Pv (i+1) (ys++[y]) (upd H4 acc (.lst (ys++[y])))):=by
   funext y dC
   refine propext ⟨fun⟨a,b,c⟩=>⟨a,b,_,by omega,rfl,hlt,c⟩,fun⟨a,b,m',_,_,_,c⟩=>⟨a,b,c⟩⟩
  rw[fe] at Uc;exact Uc
 ·have e:i=n:=by omega
  subst e;exact .inl ⟨bL _,hd ys _ p⟩
theorem i_:cZ X (.type "tuple") (fun vs H Q=>∃(p:Addr) (ys:List V),vs=[.ref p]/\H p=some (.lst ys)/\∀l,H l=none->Q (.ref l) (upd H l (.tup ys))):=by
 refine .mk ?_;intro pins s σ H vs us Q I r h;obtain⟨p,ys,e,hp,q⟩:=h;exact yc pins s σ H vs us Q I r ⟨p,ys,e,.inl ⟨cg.of hp,q⟩⟩
theorem Mj:cZ X (.type "list") (fun vs H Q=>∃(p:Addr) (ys:List V),vs=[.ref p]/\H p=some (.tup ys)/\∀l,H l=none->Q (.ref l) (upd H l (.lst ys))):=by
 refine .mk ?_;intro pins s σ H vs us Q I r h;obtain⟨p,ys,e,hp,q⟩:=h;exact rJ pins s σ H vs us Q I r ⟨p,ys,e,.inr (e_.of hp),q⟩
theorem aap {ta:TA} {g:TG} {tb:TS} {D:Ends} {σ:St} {H:Hp} {n:Nat} (hl:∀R:List V->Hp->Prop,R [.int n] H->ta σ H R) (hn:n<=1000000) (Pv:Nat->St->Hp->Prop) (h0:Pv 0 σ H)
  (hs:∀i σ H,i<n->Pv i σ H->g (.int (0+(i:Nat))) σ H fun σ2 H2=>tb { D with nx:=Pv (i+1),ct:=Pv (i+1),bk:=D.nx } σ2 H2) (hd:∀σ H,Pv n σ H->D.nx σ H):CW (zm ta) g tb D σ H:=by
 refine hl _ ⟨n,rfl,by omega,by omega,?_⟩
 rw[tu];exact zu Pv h0 hs hd
def Uk (t:TA):TE:=fun σ H Q=>t σ H fun xs H1=>xs.length<=sizeLine/\∀p H',H1 p=none->aP H1 H'->H' p=some (.lst xs)->Q (.ref p) H'
def Iu (t:TA):TE:=fun σ H Q=>t σ H fun xs H1=>xs.length<=sizeLine/\∀p H',H1 p=none->aP H1 H'->H' p=some (.tup xs)->Q (.ref p) H'
theorem bG {es:List Expr} {t:TA} {pos:Pos} (h:PA X es t):PE X (.List es pos) (Uk t):=by
 refine .mk ?_;intro pins s σ H Q I hq;refine wpAny_List_spliced (cI (h pos pins s σ H _ I hq) fun us s1 ⟨xs,H1,I1,r,z,q⟩=>⟨by rw[<- r.length]; exact z,?_⟩)
 have fr:H1 s1.heap.objs.size=none:=I1.hok.fresh (bL _);exact⟨.ref s1.heap.objs.size,upd H1 s1.heap.objs.size (.lst xs),I1.laid (t':=s1.toks) (fun b u e=>dW _ e) (bL _) ⟨z,us,0,r,dw _ rfl⟩,rfl,q _ _ fr (aQ fr _) aC⟩
theorem bx {es:List Expr} {t:TA} {x1} {pos:Pos} (h:PA X es t):PE X (.Tuple es x1 pos) (Iu t):=by
 refine .mk ?_;intro pins s σ H Q I hq;refine wpAny_Tuple_spliced (cI (h pos pins s σ H _ I hq) fun us s1 ⟨xs,H1,I1,r,z,q⟩=>⟨by rw[<- r.length]; exact z,?_⟩)
 have fr:H1 s1.heap.objs.size=none:=I1.hok.fresh (bL _);exact⟨.ref s1.heap.objs.size,upd H1 s1.heap.objs.size (.tup xs),I1.laid (t':=s1.toks) (fun b u e=>dW _ e) (bL _) ⟨z,us,r,⟨_,dw _ rfl,rfl,_,rfl⟩⟩,rfl,q _ _ fr (aQ fr _) aC⟩
def hid (a:Addr) (H:Hp):Hp:=fun b=>if b=a then none else H b
theorem cL {a b:Addr} {H:Hp} (h:b≠a):hid a H b=H b:=aZ h
theorem nP {a:Addr} {H:Hp}:hid a H a=none:=bu rfl
theorem jx {a b:Addr} {H:Hp} {o:HO} (h:hid a H b=some o):b≠a/\H b=some o:=by
 by_cases e:b=a
 ·subst e; rw[nP] at h; cases h
 ·exact⟨e,by rw[cL e] at h; exact h⟩
theorem rm {a:Addr} {H:Hp} {o:HO}:hid a (upd H a o)=hid a H:=by
 funext b
 by_cases e:b=a
 ·subst e; rw[nP,nP]
 ·rw[cL e,cL e,aN e]
theorem cR {a p:Addr} {H:Hp} {o:HO} (h:p≠a):hid a (upd H p o)=upd (hid a H) p o:=by
 funext b
 by_cases e:b=a
 ·subst e; rw[nP,aN (Ne.symm h),nP]
 ·rw[cL e];by_cases e':b=p
  ·subst e'; rw[aC,aC]
  ·rw[aN e',aN e',cL e]
theorem oG {a:Addr} {H:Hp}:aP (hid a H) H:=fun b o h=>(jx h).2
def SX (a:Addr) (H H':Hp):Prop:=aP (hid a H) (hid a H')
theorem SX.refl (a:Addr) (H:Hp):SX a H H:=aP.refl _
theorem SX.trans {a:Addr} {H H1 H2:Hp} (x:SX a H H1) (y:SX a H1 H2):SX a H H2:=aP.trans x y
theorem SX.of {a:Addr} {H H':Hp} (s:aP H H'):SX a H H':=fun b o h=>by
 obtain⟨n,e⟩:=jx h;rw[cL n]; exact s _ _ e
theorem SX.upd {a:Addr} {H:Hp} {o:HO}:SX a H (upd H a o):=by unfold SX; rw[rm]; exact aP.refl _
theorem SX.get {a b:Addr} {H H':Hp} {o:HO} (s:SX a H H') (n:b≠a) (h:H b=some o):H' b=some o:=by
 have:=s b o (by rw[cL n]; exact h)
 exact(jx this).2
def Tp (H:Hp) (a:Addr) (n:Nat):Prop:=∃x y z:Int,H a=some (.lst [.int x,.int y,.int z])/\0<=x/\0<=y/\y<4611686018427387904/\0<=z/\z<=n
theorem Tp.mono {H:Hp} {a:Addr} {n m:Nat} (h:Tp H a n) (l:n<=m):Tp H a m:=by
 obtain⟨x,y,z,e,h1,h2,h3,h4,h5⟩:=h;exact⟨x,y,z,e,h1,h2,h3,h4,by omega⟩
theorem Tp.same {H H':Hp} {a:Addr} {n:Nat} (h:Tp H a n) (s:aP H H'):Tp H' a n:=by
 obtain⟨x,y,z,e,r⟩:=h;exact⟨x,y,z,s _ _ e,r⟩
theorem Tp.ne {H:Hp} {a b:Addr} {n:Nat} (h:Tp H a n) (e:H b=none):b≠a:=by
 obtain⟨x,y,z,q,_⟩:=h;intro z; subst z; rw[e] at q; cases q
theorem Tp.neT {H:Hp} {a b:Addr} {n:Nat} {xs:List V} (h:Tp H a n) (e:H b=some (.tup xs)):b≠a:=by
 obtain⟨x,y,z,q,_⟩:=h;intro z; subst z; rw[e] at q; cases q
theorem aP.hid {a:Addr} {H H':Hp} (s:aP H H'):aP (L2.hid a H) (L2.hid a H'):=fun b o h=>by
 obtain⟨n,e⟩:=jx h;rw[cL n]; exact s _ _ e
theorem SX.dR {a p:Addr} {H H':Hp} {o:HO} (s:SX a H H') (hp:H p=none) (pa:p≠a):SX a H (L2.upd H' p o):=fun b u h=>by
 obtain⟨n,e⟩:=jx h;rw[cR pa,aN (cG e hp)];exact s b u h
theorem Tp.dR {H:Hp} {a p:Addr} {n:Nat} {o:HO} (t:Tp H a n) (pa:p≠a):Tp (L2.upd H p o) a n:=by
 obtain⟨x,y,z,e,r⟩:=t;exact⟨x,y,z,by rw[aN (Ne.symm pa)]; exact e,r⟩
def Q3 (K:PySem.W.Frag) (H:Hp) (p:Addr) (xs:List V):Prop:=(∃o,H p=some (.rR o (.lst xs))) \/
 ∃(o:Obj) (its:Array Value) (n:Nat),K.lookup p=some o/\o.cls=.type "list" /\ o.dict=none/\o.data=.seq its n/\its.size<=sizeLine/\Vals xs its.toList
theorem Q3.sq {K:PySem.W.Frag} {H:Hp} {p:Addr} {xs:List V} (h:Q3 K H p xs):cg K H p xs:=by
 rcases h with⟨o,h⟩ | h
 ·exact .inl (.inr ⟨o,h⟩)
 ·exact .inr h
theorem Q3.of {K:PySem.W.Frag} {H:Hp} {p:Addr} {xs:List V} (h:cg K H p xs) (o:Only H):Q3 K H p xs:=by
 rcases h with(h | h) | h
 ·rcases o p with e | ⟨ob,ys,e⟩
  ·rw[e] at h; cases h
  ·rw[e] at h; cases h
 ·exact .inl h
 ·exact .inr h
theorem Q3.same {K:PySem.W.Frag} {H H':Hp} {p:Addr} {xs:List V} (h:Q3 K H p xs) (s:aP H H'):Q3 K H' p xs:=by
 rcases h with⟨o,h⟩ | h
 ·exact .inl ⟨o,s _ _ h⟩
 ·exact .inr h
end
mutual
def fine (b:Nat):PyData->Bool
 | .none=>true
 | .bool _=>true
 | .int i=>decide (i.natAbs<=b)
 | .str x=>decide (x.length<=40)&&x.cps.toList.all fun c=>decide (c<4294967296)
 | .tuple ds=>BK b ds
 | .list ds=>BK b ds
 | .dict _=>false
def BK (b:Nat):List PyData->Bool
 | []=>true
 | d::ds=>fine b d&&BK b ds
end
mutual
def aaa:PyData->Nat
 | .tuple ds=>uQ ds+3
 | .list ds=>uQ ds+3
 | .dict _=>500
 | .none=>500
 | .bool _=>500
 | .int _=>500
 | .str _=>500
def uQ:List PyData->Nat
 | []=>0
 | d::ds=>aaa d+2+uQ ds
end
structure ajt (b D M:Nat) (d:PyData):Prop where
 f:fine b d=true
 dp:d.depth<=D
 m:aaa d<=M
structure abN (b D M:Nat) (ds:List PyData):Prop where
 f:∀d∈ds,fine b d=true
 dp:∀d∈ds,d.depth<=D
 m:uQ ds<=M
section
variable {X:Cx}
end
theorem BL {xs:List V} {i:Int} (h:0<=i):qp xs none (some i)=xs.take i.toNat:=by
 obtain⟨j,rfl⟩:∃j:Nat,i=j:=⟨i.toNat,by omega⟩
 unfold qp;rw[HT.vM,HT.Jf,List.drop_zero,Nat.sub_zero,tu];by_cases q:j<=xs.length
 ·rw[Nat.min_eq_left q]
 ·rw[Nat.min_eq_right (by omega),pY,Om (by omega)]
theorem kZ {xs:List V} {i:Int} (h:0<=i):qp xs (some i) none=xs.drop i.toNat:=by
 obtain⟨j,rfl⟩:∃j:Nat,i=j:=⟨i.toNat,by omega⟩
 unfold qp;rw[HT.vM,HT.Jf,tu];by_cases q:j<=xs.length
 ·rw[Nat.min_eq_left q,Om (by rw[sY]; omega)]
 ·rw[Nat.min_eq_right (by omega),Gy,List.take_nil,List.drop_of_length_le (by omega)]
section
variable {X:Cx}
theorem O5 (hu:X.A.units+64<cLine):mG X (compareOp .NotEq) (fun x y H Q=>∃d e,At H d x/\At H e y/\d.hasDict=false/\e.hasDict=false/\d.canLay0=true/\e.canLay0=true/\d.depth<=60/\Q (.bl (!PyData.eqv d e)) H):=by
 refine .mk ?_;intro pins s σ H x y v u Q I rx ry h;obtain⟨d,e,hd,he,n1,n2,c1,c2,dp,q⟩:=h;obtain⟨as,r1⟩:=nj I.hok _ _ _ hd rx n1;obtain⟨bs,r2⟩:=nj I.hok _ _ _ he ry n2;exact SeqAt.compareNe_reads r1 r2 c1 c2 (by have:=Nat.min_le_left d.depth e.depth; omega) (bN I q rfl)
theorem O6 (hu:X.A.units+64<cLine):mG X (compareOp .Eq) (fun x y H Q=>∃d e,At H d x/\At H e y/\d.hasDict=false/\e.hasDict=false/\d.canLay0=true/\e.canLay0=true/\d.depth<=60/\Q (.bl (PyData.eqv d e)) H):=by
 refine .mk ?_;intro pins s σ H x y v u Q I rx ry h;obtain⟨d,e,hd,he,n1,n2,c1,c2,dp,q⟩:=h;obtain⟨as,r1⟩:=nj I.hok _ _ _ hd rx n1;obtain⟨bs,r2⟩:=nj I.hok _ _ _ he ry n2;exact SeqAt.compareEq_reads r1 r2 c1 c2 (by have:=Nat.min_le_left d.depth e.depth; omega) (bN I q rfl)
end
def FK (g:TG) (tb:TS) (D:Ends) (σ:St) (vs:List V) (H1:Hp):Prop:=∃j:Int,vs=[.int j]/\-(2 ^ 62)<=j/\j<2 ^ 62/\∃W:Nat->Nat->St->Hp->Prop,(∃m,W 0 m σ H1)/\∀i m σ H,W i m σ H ->
 ((MF 0 j.toNat).stop i H/\D.nx σ H)\/((MF 0 j.toNat).go i H/\∃N:St->Hp->Prop,(∀σ' H',N σ' H'->∃m',m'<m/\W (i+1) m' σ' H')/\∀x H',(MF 0 j.toNat).CN i H x H'->g x σ H' fun σ2 H2=>tb { D with nx:=N,ct:=N,bk:=D.nx } σ2 H2)
theorem mL {ta:TA} {g:TG} {tb:TS} {D:Ends} {σ:St} {H:Hp}:CW (zm ta) g tb D σ H=ta σ H (FK g tb D σ):=rfl
theorem FK.of {g:TG} {tb:TS} {D:Ends} {σ:St} {H:Hp} {n:Nat} {i:Int} (ei:i=n) (hn:n<=1000000) (Pv:Nat->St->Hp->Prop) (h0:Pv 0 σ H)
  (hs:∀i σ H,i<n->Pv i σ H->g (.int (0+(i:Nat))) σ H fun σ2 H2=>tb { D with nx:=Pv (i+1),ct:=Pv (i+1),bk:=D.nx } σ2 H2) (hd:∀σ H,Pv n σ H->D.nx σ H):FK g tb D σ [.int i] H:=by
 subst ei;refine⟨n,rfl,by omega,by omega,?_⟩
 rw[tu];exact zu Pv h0 hs hd
def TK (K:PySem.W.Frag) (g:TG) (tb:TS) (D:Ends) (σ:St) (x:V) (H1:Hp):Prop:=∃a,x=.ref a/\(∃xs,e_ K H1 a xs)/\∃W:Nat->Nat->St->Hp->Prop,(∃m,W 0 m σ H1)/\∀i m σ H,W i m σ H ->
 ((Vi K a).stop i H/\D.nx σ H)\/((Vi K a).go i H/\∃N:St->Hp->Prop,(∀σ' H',N σ' H'->∃m',m'<m/\W (i+1) m' σ' H')/\∀x H',(Vi K a).CN i H x H'->g x σ H' fun σ2 H2=>tb { D with nx:=N,ct:=N,bk:=D.nx } σ2 H2)
theorem Nq {K:PySem.W.Frag} {tl:TE} {g:TG} {tb:TS} {D:Ends} {σ:St} {H:Hp}:CW (Lw K tl) g tb D σ H=tl σ H (TK K g tb D σ):=rfl
theorem TK.of {K:PySem.W.Frag} {g:TG} {tb:TS} {D:Ends} {σ:St} {H:Hp} {a:Addr} {xs:List V} (ha:H a=some (.tup xs)) (Pv:Nat->St->Hp->Prop) (h0:Pv 0 σ H) (hl:∀i σ H',i<=xs.length->Pv i σ H'->H' a=some (.tup xs))
  (hs:∀i x σ H,xs[i]?=some x->Pv i σ H->g x σ H fun σ2 H2=>tb { D with nx:=Pv (i+1),ct:=Pv (i+1),bk:=D.nx } σ2 H2) (hd:∀σ H,Pv xs.length σ H->D.nx σ H):TK K g tb D σ (.ref a) H:=
 ⟨a,rfl,⟨xs,e_.of ha⟩,Tn (xs:=xs) Pv h0 (fun i σ H' hi p=>e_.of (hl i σ H' hi p)) hs hd⟩
def CK (js:List Nat) (te:TE) (σ:St) (Q:VK) (vs:List V) (H1:Hp):Prop:=∃j:Int,vs=[.int j]/\-(2 ^ 62)<=j/\j<2 ^ 62/\∀acc,H1 acc=none->∃W:Nat->Nat->List V->Hp->Prop,(∃m,W 0 m [] (upd H1 acc (.lst [])))/\∀i m ys H2,W i m ys H2 ->
 ((MF 0 j.toNat).stop i H2/\Q (.ref acc) H2)\/((MF 0 j.toNat).go i H2/\∀x H3,(MF 0 j.toNat).CN i H2 x H3->te (some x::b7 js σ) H3 fun y H4=>H4 acc=some (.lst ys)/\ys.length<sizeLine/\∃m',m'<m/\W (i+1) m' (ys++[y]) (upd H4 acc (.lst (ys++[y]))))
theorem rY {js:List Nat} {ta:TA} {te:TE} {σ:St} {H:Hp} {Q:VK}:gQ js (zm ta) te σ H Q=ta σ H (CK js te σ Q):=rfl
theorem CK.of {js:List Nat} {te:TE} {σ:St} {H:Hp} {Q:VK} {n:Nat} {i:Int} (ei:i=n) (hn:n<=1000000)
  (h:∀acc,H acc=none->∃Pv:Nat->List V->Hp->Prop,Pv 0 [] (upd H acc (.lst [])) /\
   (∀i ys H',i<n->Pv i ys H'->te (some (.int (0+(i:Nat)))::b7 js σ) H' fun y dC=>dC acc=some (.lst ys)/\ys.length<sizeLine/\Pv (i+1) (ys++[y]) (upd dC acc (.lst (ys++[y])))) /\
   ∀ys H',Pv n ys H'->Q (.ref acc) H'):CK js te σ Q [.int i] H:=by
 subst ei;have:=Ql (ta:=fun _ H R=>R [.int n] H) (σ:=σ) (H:=H) (Q:=Q) (js:=js) (te:=te) (n:=n) (fun R hR=>hR) hn h;exact this
def Gs (mg:Str->Option Value) (x:Str) (i:Str):Prop:=∃t,mg x=some (.str i t)
theorem Aq {X:Cx} {x:Str} {i:Str} {pos:Pos} (h:Gs X.mg x i) (hg:Gl X x:=by rfl) (hd:(x==("__debug__" : Str))=false:=by decide):PE X (.Name x pos) (tC (.str i)):=by
 obtain⟨t,ht⟩:=h;exact Av hg ht ⟨t,rfl⟩ hd
def oY (b:Int):List Int->Int
 | []=>b
 | x::r=>oY (if x>b then x else b) r
section
variable {prog:Program} {w:World} {A:Around} {R:Result->Shared->Prop} {It:Addr} {fp wr:List Addr} {n:Nat} {Pv:Nat->Value->Prop} {St:Nat->Heap->Prop}
theorem Pb {ns:List Int} (W:Walks prog w A.in1 It fp wr n Pv St) (hn:n=ns.length) (hv:∀i v,Pv i v->∃t,v=.int (ns.getD i 0) t) (C:Addr) (nf:C∉fp) (d:Value):∀(m j:Nat) (z:Shared) (best:Int) (tb:Tok) (c:Nat),ns.length-j=m->j<=ns.length->St j z.heap ->
  z.heap.get? C=some ⟨.type "list",none,.seq #[.int best tb,.int best tb] c,#[]⟩ ->
  (∀t h' tk,(∀b o,b∉wr->b≠C->z.heap.get? b=some o->h'.get? b=some o)->R (.ok (.ret (.int (oY best (ns.drop j)) t))) { z with heap:=h',toks:=tk }) ->
  codeAny (model prog w) A (.builtin "max.loop" ⟨[.ref It,.none,.ref C],[("default",d)]⟩) R z:=by
 subst hn;have nw:C∉wr:=fun q=>nf (W.sub _ q);have nm:(toString "max" ++ toString ".loop" : String) = "max.loop" := by decide
 intro m
 induction m with
 | zero=>
  intro j z best tb c hm hj st hC fin;have e:j=ns.length:=by omega
  subst e;refine codeAny_builtin PySem.F.entry_max_loop ?_;rw[Around.under_plainId PySem.F.plain_max_loop _];show wpAny _ A.in1 (seqItems? (.ref C) >>= _) _ _ z;refine aW (qT hC rfl ?_);show wpAny _ A.in1 (tryCatch (pyNext (.ref It)) _ >>= _) _ _ z;refine aW (yS (W.done z _ _ st fun h' tk kp=>?_));refine aW (wpAny_updateSeq (kp C _ nw hC) rfl (aW (v9 (cF ?_))));rw[Gy] at fin;exact fin tb _ tk fun b o h1 h2 h3=>(GK _ _ (Ne.symm h2)).trans (kp b o h1 h3)
 | succ m ih=>
  intro j z best tb c hm hj st hC fin;have lt:j<ns.length:=by omega
  refine codeAny_builtin PySem.F.entry_max_loop ?_;rw[Around.under_plainId PySem.F.plain_max_loop _];show wpAny _ A.in1 (seqItems? (.ref C) >>= _) _ _ z;refine aW (qT hC rfl ?_);show wpAny _ A.in1 (tryCatch (pyNext (.ref It)) _ >>= _) _ _ z;refine aW (yS (W.item j z _ _ lt st fun v h' tk hP st' kp=>?_));obtain⟨t,rfl⟩:=hv j v hP;have hC':=kp C _ nw hC;show wpAny _ A.in1 (tryCatch (holding [_,_] (richCompare .Gt _ (.int best tb) >>= _)) _ >>= _) _ _ _;refine aW (yS (oV (aW (richCompare_gives (op:=.Gt) (typeIs_int _ _ t) (typeIs_int _ _ tb) PySem.F.slot_int_gt PySem.F.entry_int_gt (PySem.F.args_int_gt_2 _ _) (gives_int_gt _ _ t tb) (fun x=>nomatch x) ?_))))
  refine aW (oV (Dn (aW (v9 (cF ?_)))))
  have dr:ns.drop j=ns.getD j 0::ns.drop (j+1):=by
   rw[KN lt,lC,dN lt]; rfl
  rw[dr] at fin;by_cases hb:ns.getD j 0>best
  ·have e1:oY best (ns.getD j 0::ns.drop (j+1))=oY (ns.getD j 0) (ns.drop (j+1)):=by rw[oY,bu hb]
   rw[e1] at fin;rw[oW hb];simp only[if_true];refine aW (wpAny_updateSeq hC' rfl (aW (v9 ?_)));rw[nm];refine cF ⟨plainId_quiet PySem.F.plain_max_loop _,ih (j+1) _ _ t _ (by omega) lt (W.frame _ _ _ st' fun b hb o e=>?_) (Jo _ hC' rfl) fun t2 h2 tk2 k2=>?_⟩
   ·exact(GK _ _ (fun q:C=b=>nf (by rw[q]; exact hb))).trans e
   ·exact fin t2 h2 tk2 fun b o h1 h3 e=>k2 b o h1 h3 ((GK _ _ (Ne.symm h3)).trans (kp b o h1 e))
  ·have e1:oY best (ns.getD j 0::ns.drop (j+1))=oY best (ns.drop (j+1)):=by rw[oY,aZ hb]
   rw[e1] at fin;rw[mC hb];simp only[GC,if_false];refine aW (v9 ?_);rw[nm];refine cF ⟨plainId_quiet PySem.F.plain_max_loop _,ih (j+1) _ best tb c (by omega) lt st' hC' fun t2 h2 tk2 k2=>?_⟩
   exact fin t2 h2 tk2 fun b o h1 h3 e=>k2 b o h1 h3 (kp b o h1 e)
theorem Li {ns:List Int} (W:Walks prog w A.in1 It fp wr n Pv St) (hn:n=ns.length) (hv:∀i v,Pv i v->∃t,v=.int (ns.getD i 0) t) (C:Addr) (nf:C∉fp) (d:Value) (z:Shared) (c:Nat) (st:St 0 z.heap)
  (hC:z.heap.get? C=some ⟨.type "list",none,.seq #[] c,#[]⟩)
  (f0:ns=[]->∀h' tk,(∀b o,b∉wr->b≠C->z.heap.get? b=some o->h'.get? b=some o)->R (.ok (.ret d)) { z with heap:=h',toks:=tk })
  (f1:∀x r,ns=x::r->∀t h' tk,(∀b o,b∉wr->b≠C->z.heap.get? b=some o->h'.get? b=some o)->R (.ok (.ret (.int (oY x r) t))) { z with heap:=h',toks:=tk }) :
  codeAny (model prog w) A (.builtin "max.loop" ⟨[.ref It,.none,.ref C],[("default",d)]⟩) R z:=by
 have nw:C∉wr:=fun q=>nf (W.sub _ q);have nm:(toString "max" ++ toString ".loop" : String) = "max.loop" := by decide
 refine codeAny_builtin PySem.F.entry_max_loop ?_;rw[Around.under_plainId PySem.F.plain_max_loop _];show wpAny _ A.in1 (seqItems? (.ref C) >>= _) _ _ z;refine aW (qT hC rfl ?_);show wpAny _ A.in1 (tryCatch (pyNext (.ref It)) _ >>= _) _ _ z;cases ns with
 | nil=>
  subst hn;refine aW (yS (W.done z _ _ st fun h' tk kp=>?_));show wpAny _ A.in1 (rule _ >>= _) _ _ _;exact aW (qU (cF (f0 rfl h' tk fun b o h1 _ e=>kp b o h1 e)))
 | cons x r=>
  refine aW (yS (W.item 0 z _ _ (by rw[hn]; exact Nat.succ_pos _) st fun v h' tk hP st' kp=>?_))
  obtain⟨t,e⟩:=hv 0 v hP;have e:v=.int x t:=e;subst e;have hC':=kp C _ nw hC;show wpAny _ A.in1 (updateSeq C (fun _=>#[Value.int x t,Value.int x t]) >>= _) _ _ _;refine aW (wpAny_updateSeq hC' rfl ?_);rw[nm];refine cF ⟨plainId_quiet PySem.F.plain_max_loop _,Pb W hn hv C nf d _ 1 _ x t _ rfl (by simp) (W.frame _ _ _ st' fun b hb o e=>?_) (Jo _ hC' rfl) fun t2 h2 tk2 k2=>?_⟩
  ·exact(GK _ _ (fun q:C=b=>nf (by rw[q]; exact hb))).trans e
  ·exact f1 x r rfl t2 h2 tk2 fun b o h1 h3 e=>k2 b o h1 h3 ((GK _ _ (Ne.symm h3)).trans (kp b o h1 e))
end
theorem Mq (a v:Value):argsOk "max" ⟨[a],[("default",v)]⟩:=by unfold argsOk; kernel_rfl
section
variable {prog:Program} {w:World} {A:Around} {E:Value->Shared->Prop} {s:Shared}
theorem Mi {l:Addr} {its:List Value} {ns:List Int} {d:Value} {Q:Value->Shared->Prop} (hh:A.handled=none) (hl:s.heap.IsList l its.toArray) (hi:∀i v,its[i]?=some v->∃t,v=Value.int (ns.getD i 0) t) (hlen:its.length=ns.length)
  (h0:ns=[]->∀h' tk,(∀b o,s.heap.get? b=some o->h'.get? b=some o)->Q d { s with heap:=h',toks:=tk })
  (h1:∀b r,ns=b::r->∀t h' tk,(∀b o,s.heap.get? b=some o->h'.get? b=some o)->Q (Value.int (oY b r) t) { s with heap:=h',toks:=tk }) :
  wpAny (model prog w) A (call (.builtin "max") [.ref l] [("default",d)]) Q E s:=by
 have nm:(toString "max" ++ toString ".loop" : String) = "max.loop" := by decide
 have lt:l<s.heap.objs.size:=by obtain⟨_,e,_⟩:=hl; exact cz e
 refine kmk_tree PySem.F.kind_max PySem.F.plain_max PySem.F.entry_max (Mq _ _) ?_;show wpAny _ A.in1 (Builtin.Builtins.bindParams "max" ["key","default"] 0 ⟨[],[("default",d)]⟩ >>= _) _ _ s;refine aW (vU (show Builtin.Builtins.bindParams "max" ["key","default"] 0 ⟨[],[("default",d)]⟩=pure [none,some d] from rfl) ?_);refine aW (cF ?_);refine aW (Gz hl ?_);refine aW (ux ?_);rw[nm];have W:=Walks.list (prog:=prog) (w:=w) (A:=A.in1) hh s.heap.objs.size l (fP lt) its.toArray;generalize eh:s.heap.push { cls:=.type "list_iterator",data:=.fields #[.ref l,.int 0 0] }=h1';have sz:h1'.objs.size=s.heap.objs.size+1:=by rw[<- eh,gK]
 have k1:∀b o,s.heap.get? b=some o->h1'.get? b=some o:=fun b o e=>by rw[<- eh]; exact dW _ e
 have hit:h1'.IsListIter s.heap.objs.size l 0:=by rw[<- eh]; exact⟨_,dw _ rfl,rfl,rfl⟩
 have hl1:h1'.IsList l its.toArray:=by rw[<- eh]; exact hl.push _
 have nf:h1'.objs.size∉[s.heap.objs.size,l]:=fun q=>by
  rcases bI.mp q with e | q
  ·rw[sz] at e; exact Nat.succ_ne_self _ e
  ·have e:=gJ.mp q; rw[sz] at e; rw[<- e] at lt; exact sX _ (Du (Dk _) lt)
 have ol:∀{h':Heap},(∀b o,b∉[s.heap.objs.size]->b≠h1'.objs.size->(h1'.push { cls:=.type "list",data:=.seq #[] 0 }).get? b=some o->h'.get? b=some o)->∀b o,s.heap.get? b=some o->h'.get? b=some o:=fun k b o e=>by
  have lb:=cz e;refine k b o (fun q=>?_) (fun q=>?_) (dW _ (k1 b o e))
  ·rw[gJ.mp q] at lb; exact sX _ lb
  ·rw[q,sz] at lb; exact sX _ (Du (Dk _) lb)
 refine cF ⟨plainId_quiet PySem.F.plain_max_loop _,Li (ns:=ns) W (by rw[fu,hlen]) (fun i v e=>hi i v (by simpa using e)) h1'.objs.size nf d _ _ ?_ (dw _ rfl) (fun e h' tk k=>h0 e h' tk (ol k)) (fun x r e t h' tk k=>h1 x r e t h' tk (ol k))⟩
 exact W.frame _ _ _ (show h1'.IsListIter s.heap.objs.size l 0/\h1'.IsList l its.toArray from⟨hit,hl1⟩) fun b _ o e=>dW _ e
end
section
variable {X:Cx}
def Uj (t:TA) (te:TE):TE:=fun σ H Q=>t σ H fun vs H1=>te σ H1 fun y H2=>∃(p:Addr) (ns:List Int),vs=[.ref p]/\H2 p=some (.lst (ns.map V.int))/\(ns=[]->Q y H2)/\∀b r,ns=b::r->Q (.int (oY b r)) H2
theorem z7 {ns:List Int}:∀{us:List Value},Vals (ns.map V.int) us->∀i v,us[i]?=some v->∃t,v=Value.int (ns.getD i 0) t:=by
 induction ns with
 | nil=>intro us r i v e; cases r; simp at e
 | cons n ns ih=>
  intro us r i v e;cases r with
  | cons r1 r2=>
   cases i with
   | zero=>
    obtain⟨t,rfl⟩:=(r1:∃t,_=Value.int n t);simp at e;exact⟨t,e.symm⟩
   | succ i=>simpa using ih r2 i v (by simpa using e)
theorem R5 {e e2:Expr} {t:TA} {te:TE} {p pos SQ:Pos} (hc:X.calm=true) (hm:X.mg "max" = none) (ha:PA X [e] t) (hk:PE X e2 te) (hg:Gl X "max" := by rfl) (h1:b8 e=true:=by rfl) :
  PE X (.Call (.Name "max" p) [e] [⟨some "default",e2,SQ⟩] pos) (Uj t te):=by
 refine .mk ?_;intro pins s σ H Q I h;refine uy (iJ I hg hm tX ?_ (by decide) (by decide))
 refine callWith_kw ?_ ?_ ?_ ?_ ?_
 ·refine cI (ha pos pins s σ H _ I h) fun us s1 qx=>?_;obtain⟨vs,H1,I1,r,q⟩:=qx;refine cI ((RV hk V_:PK X [⟨some "default",e2,SQ⟩] _) pos pins s1 σ H1 (fun ys H2=>∃y,ys=[y]/\(∃(p:Addr) (ns:List Int),vs=[.ref p]/\H2 p=some (.lst (ns.map V.int))/\(ns=[]->Q y H2)/\∀b r,ns=b::r->Q (.int (oY b r)) H2)) I1 ?_) fun ws s2 ⟨zs,H2,I2,rz,q2⟩=>?_
  ·show te σ H1 (fun x H2=>∃y,[x]=[y]/\_)
   have fe:(fun(x:V) (H2:Hp)=>∃y,[x]=[y]/\(∃(p:Addr) (ns:List Int),vs=[.ref p]/\H2 p=some (.lst (ns.map V.int))/\(ns=[]->Q y H2)/\∀b r,ns=b::r->Q (.int (oY b r)) H2))=fun y H2=>∃(p:Addr) (ns:List Int),vs=[.ref p]/\H2 p=some (.lst (ns.map V.int))/\(ns=[]->Q y H2)/\∀b r,ns=b::r->Q (.int (oY b r)) H2:=by
    funext x H2
    refine propext ⟨?_,fun z=>⟨x,rfl,z⟩⟩;rintro⟨y,ey,z⟩;cases ey;exact z
   rw[fe];exact q
  ·obtain⟨y,rfl,l,ns,rfl,hl,q0,q1⟩:=q2;obtain⟨u,rfl,ru⟩:=r.one;cases ru;obtain⟨v,rfl,rv⟩:=rz.one;obtain⟨_,its,n,rvs,eo⟩:=I2.hok l _ hl;have hlen:=rvs.length;rw[bZ] at hlen;refine Mi (ns:=ns) (I2.ok.hd hc) (show s2.heap.IsList l its.toArray from⟨_,eo,rfl,n,rfl⟩) (z7 rvs) hlen.symm (fun e h' tk k=>⟨y,H2,I2.kept (t':=tk) k,rv,q0 e⟩) (fun b r e t h' tk k=>⟨.int (oY b r),H2,I2.kept (t':=tk) k,⟨t,rfl⟩,q1 b r e⟩)
 ·rw[cB h1]; rfl
 ·exact cM (es:=[e]) (by simp[h1])
 ·rfl
 ·rfl
end
def jR (t:Str):Nat:=if(("come" : Str)==t)=true then 0 else if(("done" : Str)==t)=true then 1 else 2
def Ub:List V:=[.str "come",.str "done",.str "wait"]
def Zy (K:PySem.W.Frag):V->List V->Hp->VK->Prop:=fun x xs H Q=>∃(p:Addr) (t:Str),x=.ref p/\e_ K H p Ub/\xs=[.str t]/\t∈(["come","done","wait"]:List Str)/\Q (.int (jR t)) H
theorem uV {x y z:V} {us:List Value} (h:Vals [x,y,z] us):∃u v q,us=[u,v,q]/\RelV x u/\RelV y v/\RelV z q:=by
 obtain⟨u,r,rfl,h1,h⟩:=h.un;obtain⟨v,q,rfl,h2,h3⟩:=h.two;exact⟨u,v,q,rfl,h1,h2,h3⟩
theorem S7 {t:Str} (h:t∈(["come","done","wait"]:List Str)) (h0:(("come" : Str)==t)=false) (h1:(("done" : Str)==t)=false):(("wait" : Str)==t)=true:=by
 simp only[bI,dD,or_false] at h;rcases h with rfl | rfl | rfl
 ·revert h0; decide +kernel
 ·revert h1; decide +kernel
 ·decide +kernel
section
variable {X:Cx}
theorem CQ {prog:Program} {w:World} {A:Around} {E:Value->Shared->Prop} {s:Shared} {p:Addr} {a b c t:Str} {k0 k1 k2 k3:Tok} {Q:Value->Shared->Prop} (ht:IsTup s.heap p #[.str a k0,.str b k1,.str c k2]) (hl:(a==t)=false->(b==t)=false->(c==t)=true)
  (q:∀tk,Q (Value.int (if(a==t)=true then 0 else if(b==t)=true then 1 else 2) tk) { s with toks:=s.toks+1 }):wpAny (model prog w) A (call (.builtin "tuple.index") [.ref p,.str t k3]) Q E s:=by
 refine xJ PySem.F.slot_tuple_index ht.typeIs PySem.F.entry_tuple_index ?_ (PySem.F.args_tuple_index_2 _ _);show wpAny _ A.in1 (Builtin.Tuple.tupleItemsOf (.ref p) >>= _) _ _ s;refine aW (tupleItemsOf_ ht ?_);show wpAny _ _ ((pure 0:Sem Nat) >>= _) _ _ s;refine aW (cF ?_);show wpAny _ _ ((pure 3:Sem Nat) >>= _) _ _ s;refine aW (cF ?_);show wpAny _ _ (forIn [0:3] _ _ >>= _) _ _ s;rw[Std.Legacy.Range.forIn_eq_forIn_range'];have e:List.range' [0:3].start [0:3].size [0:3].step=[0,1,2]:=rfl;rw[e,Dj]
 have mk:∀(i:Int) {R:PySem.Fin->Shared->Prop},(∀tk,R (.done (.ret (.int i tk))) { s with toks:=s.toks+1 })->wpAny (model prog w) A.in1 (retInt i) R E s:=fun i {R} h=>by
  unfold retInt;refine aW (wpAny_mkInt (cF (h _)))
 have eq:∀(z:Str) (k:Tok),SeqAt.EqAt A.in1 s (.str z k) (.str t k3) (z==t):=fun z k=>SeqAt.EqAt.str_str z k t k3;cases e0:(a==t) with
 | true=>
  rw[e0] at q;refine aW (aW (aW (eq a k0 _ _ _ _ ?_)));rw[e0,bu rfl];refine aW (mk 0 fun tk=>cF (cF (cF ⟨_,rfl,q tk⟩)))
 | false=>
  rw[e0] at q;refine aW (aW (aW (eq a k0 _ _ _ _ ?_)));rw[e0,aZ (by decide)]
  refine cF ?_;show wpAny _ _ (forIn [1,2] _ _) _ _ s;rw[Dj];cases e1:(b==t) with
  | true=>
   rw[e1] at q;refine aW (aW (eq b k1 _ _ _ _ ?_));rw[e1,bu rfl];refine aW (mk 1 fun tk=>cF (cF (cF ⟨_,rfl,q tk⟩)))
  | false=>
   rw[e1] at q;refine aW (aW (eq b k1 _ _ _ _ ?_));rw[e1,aZ (by decide)]
   refine cF ?_;show wpAny _ _ (forIn [2] _ _) _ _ s;rw[Dj];refine aW (aW (eq c k2 _ _ _ _ ?_));rw[hl e0 e1,bu rfl];refine aW (mk 2 fun tk=>cF (cF (cF ⟨_,rfl,q tk⟩)))
theorem Lj {K:PySem.W.Frag} (hK:X.K=K):MtR X "tuple.index" (Zy K):=by
 subst hK;intro pins s σ H x xs v us Q I rx rv h;obtain⟨p,t,rfl,hp,rfl,ht,q⟩:=h;cases rx;obtain⟨u,rfl,tk,rfl⟩:=rv.one;obtain⟨its,r,pt,_⟩:=I.tuple hp;obtain⟨u0,u1,u2,rfl,⟨k0,rfl⟩,⟨k1,rfl⟩,⟨k2,rfl⟩⟩:=uV r;refine CQ pt (S7 ht) fun tk'=>⟨.int (jR t),H,I.tok _,⟨tk',?_⟩,q⟩;unfold jR;split
 ·rfl
 ·split <;> rfl
def GT2 (K:PySem.W.Frag) (mg:Str->Option Value) (x:Str) (W:List V):Prop:=∃a,mg x=some (.ref a)/\(∃o,K.lookup a=some o/\o.cls=.type "tuple" /\ o.dict=none)/\∀H,e_ K H a W
def Za (K:PySem.W.Frag) (W:List V):TE:=fun _ H Q=>∀a,(∃o,K.lookup a=some o/\o.cls=.type "tuple" /\ o.dict=none)->(∀H',e_ K H' a W)->Q (.ref a) H
theorem R1 {K:PySem.W.Frag} {x:Str} {W:List V} {pos:Pos} (hK:X.K=K) (h:GT2 K X.mg x W) (hg:Gl X x:=by rfl) (hd:(x==("__debug__" : Str))=false:=by decide):PE X (.Name x pos) (Za K W):=by
 obtain⟨a,ha,ho,hs⟩:=h;refine .mk ?_;intro pins s σ H Q I q;exact Av (v:=.ref a) hg ha rfl hd pins s σ H Q I (q a ho hs)
end
section
variable {X:Cx} {pos:Pos}
def Ug (i j l:Nat) (ta:TA):TS:=fun D σ H=>ta σ H fun vs H1=>∃v w z,vs=[v,w,z]/\D.nx (((σ.set l (some z)).set j (some w)).set i (some v)) H1
theorem RP {i j l:Nat} {x y z:Str} {a b c:Expr} {ta:TA} {px py pz pt:Pos} {kt k2 V7} (hc:X.calm=true) (hN:X.N.Nodup) (hi:X.N[i]?=some x) (hj:X.N[j]?=some y) (hl:X.N[l]?=some z)
  (hx:X.env.scope.names.lookup x=some .local) (hy:X.env.scope.names.lookup y=some .local) (hz:X.env.scope.names.lookup z=some .local) (ha:PA X [a,b,c] ta)
  (hw:swappedStores [.Tuple [.Name x px,.Name y py,.Name z pz] kt pt] (.Tuple [a,b,c] k2 V7) X.env=pure (some [x,y,z]))
  (hs:swapsWithSole [.Tuple [.Name x px,.Name y py,.Name z pz] kt pt] (.Tuple [a,b,c] k2 V7) pos.line X.env=pure false:=by rfl) :
  PS X (.Assign [.Tuple [.Name x px,.Name y py,.Name z pz] kt pt] (.Tuple [a,b,c] k2 V7) pos) (Ug i j l ta):=by
 refine .mk ?_;intro pins s σ H D I h;rw[exec_Assign_arm,hs];refine aW (Ai (aW (cF ?_)));rw[aZ (by decide)]
 refine aW (Tuple_ (cI (ha _ pins s σ H _ I h) fun us s1 qx=>?_));obtain⟨vs,H1,I1,r1,v,w,t,e1,q1⟩:=qx;subst e1;obtain⟨u1,u2,u3,rfl,rv,Df,rt⟩:=uV r1;refine ux ?_ (by show 3<=sizeLine; decide)
 have I2:Inv X pins σ H1 { s1 with heap:=s1.heap.push { cls:=.type "tuple",data:=.seq [u1,u2,u3].toArray } }:=I1.kept (t':=s1.toks) fun b o e=>dW _ e
 rw[hw];refine aW (cF ?_);show wpAny (model X.prog X.w) X.A (do rule "assign.swapped-stores"; let items <- unpackItems (.ref s1.heap.objs.size) 3 none; assignInOrder [fun v=>bindName X.env z v,fun v=>bindName X.env y v,fun v=>bindName X.env x v] items.reverse; pure Flow.next) _ _ _
 refine aW (qU (aW (unpackItems_tuple (items:=#[u1,u2,u3]) (I.ok.hd hc) (IsTup.new s1.heap _) fun h' hx'=>?_)));have I3:=I2.kept (h':=h') (t':=s1.toks) fun b o e=>hx' b o (fP (cz e)) e;show wpAny _ _ (assignInOrder [fun v=>bindName X.env z v,fun v=>bindName X.env y v,fun v=>bindName X.env x v] [u3,u2,u1] >>= fun _=>pure Flow.next) _ _ _;refine aW (assignInOrder_cons (Dz (iy I3 hN hl (.inl hz) rt (fun s2 I4=>?_) (.inr hz))));refine assignInOrder_cons (Dz (iy I4 hN hj (.inl hy) Df (fun s3 I5=>?_) (.inr hy)));exact assignInOrder_cons (Dz (iy I5 hN hi (.inl hx) rv (fun s4 I6=>assignInOrder_nil (cF ⟨_,H1,I6,q1⟩)) (.inr hx)))
end
theorem Inv.Rh {X:Cx} {pins:List (Addr×Obj)} {σ:St} {H:Hp} {s:Shared} {h':Heap} {t':Nat} {e it:Addr} (I:Inv X pins σ H s) (k:∀b o,b≠e->b≠it->s.heap.get? b=some o->h'.get? b=some o) (fe:fV X pins H e) (fi:fV X pins H it) :
  Inv X pins σ H { s with heap:=h',toks:=t' }:=by
 have k2:∀b o,b∉[e,it]->s.heap.get? b=some o->h'.get? b=some o:=fun b o hb q=>k b o (fun z=>hb (by simp[z])) (fun z=>hb (by simp[z])) q
 have fp:∀b∈[e,it],fV X pins H b:=fun b hb=>by
  rcases bI.mp hb with z | z
  ·rw[z]; exact fe
  ·rw[gJ.mp z]; exact fi
 have ni:∀b u,H b=some u->b∉[e,it]:=fun b u q hb=>by rw[(fp b hb).1] at q; cases q
 refine I.step (g':=s.gens) (d':=s.drawn) (ch:=[e,it]) (fun b hb=>?_) (fun b o _ _ hc q _=>k2 b o hc q) (fun b o _ _ hc q _=>⟨o.slots,k2 b o hc q⟩) (fun _ _ _ _ n=>n) (fun b o hc q=>⟨o,k2 b o hc q⟩) (fun _ _ q=>q) (fun _ _ _ q=>q)
  (fun b ps q=>⟨#[],by rw[q]; simp⟩) (fun m hm=>?_) (fun b u q=>?_) I.bare
 ·obtain⟨_,f1,_,f3,f4,f5⟩:=fp b hb;exact⟨f3,f1,f4,f5⟩
 ·obtain⟨o,es,ep,ho,r⟩:=hm;refine⟨o,es,ep,k2 _ o (fun hb=>(fp _ hb).2.1 rfl) ho,r⟩
 ·refine(I.hok b u q).stay (fun c v hc z=>k2 c v ?_ z) (fun _ z=>z) fun _ _ z=>z;rcases hc with z | z
  ·rw[z]; exact ni b u q
  ·exact ni c _ z
def Yn (K:PySem.W.Frag) (a:Addr):It:=
 ⟨fun i H=>∃xs x,cg K H a xs/\xs[i]?=some x,fun i H x H'=>∃p y,H p=none/\x=.ref p/\H'=upd H p (.tup [.int i,y])/\∀xs,cg K H a xs->xs[i]?=some y,fun i H=>∃xs,cg K H a xs/\xs.length<=i⟩
theorem Km {P:Program} {w:World} {K:PySem.W.Frag} {elts:List Expr} {x1} {tp:Pos} (a e it:Addr) (hne:e≠it):Turn P w K (.Tuple elts x1 tp) (Yn K a) [e,it] e (fun i h=>(∃old,IsEnum h e it (i:Nat) old)/\h.IsListIter it a i) where
 mem:=by simp
 obj:=fun i h st b hb=>by
  obtain⟨⟨old,he⟩,o,ho,c,d⟩:=st;rcases bI.mp hb with z | z
  ·rw[z]; exact⟨_,he,fun v q=>by cases q⟩
  ·rw[gJ.mp z]; exact⟨o,ho,fun v q=>by rw[d] at q; cases q⟩
 keep:=fun i h h' st k=>by
  obtain⟨⟨old,he⟩,hi⟩:=st;exact⟨⟨old,k e (by simp) _ he⟩,hi.at fun o q=>k it (by simp) o q⟩
 item:=by
  intro X hP hw hK hc i pins s σ H E I hf st hg;subst hP hw hK;obtain⟨⟨old,he⟩,hi⟩:=st;obtain⟨xs,x,hq,hx⟩:=hg;obtain⟨its,rv,p,hz⟩:=I.list hq;obtain⟨u,hu,ru⟩:=rv.get hx;have fe:=hf e (by simp)
  have fi:=hf it (by simp)
  refine wpAny_pyNext_enum_item he hi p.isList (x:=u) (by simpa using hu) hne fun h' eo hi' ht hsz kk=>?_
  have fr:H s.heap.objs.size=none:=I.hok.fresh (bL _)
  have I1:Inv X pins σ (upd H s.heap.objs.size (.tup [.int i,x])) { s with heap:=s.heap.push { cls:=.type "tuple",data:=.seq #[.int i s.toks,u] },toks:=s.toks }:=
   I.laid (t':=s.toks) (fun b v q=>dW _ q) (bL _) ⟨(by show 2<=sizeLine; decide),[.int i s.toks,u],.cons ⟨_,rfl⟩ (.cons ru .nil),⟨_,dw _ rfl,rfl,_,rfl⟩⟩
  have ee:e<s.heap.objs.size:=cz he;have ei:it<s.heap.objs.size:=by obtain⟨o,ho,_⟩:=hi; exact cz ho
  have Xi:fV X pins (upd H s.heap.objs.size (.tup [.int i,x])) e:=⟨by rw[aN (fP ee)]; exact fe.1,fe.2⟩
  have fi1:fV X pins (upd H s.heap.objs.size (.tup [.int i,x])) it:=⟨by rw[aN (fP ei)]; exact fi.1,fi.2⟩
  have I2:Inv X pins σ (upd H s.heap.objs.size (.tup [.int i,x])) { s with heap:=h',toks:=s.toks+1 }:=I1.Rh (t':=s.toks+1) (fun b o h1 h2 q=>by
   by_cases z:b=s.heap.objs.size
   ·subst z;rw[dw _ rfl] at q;cases q;exact ht
   ·rcases Heap.get?_push_cases q with w | w
    ·exact absurd w.1 z
    ·exact kk b o h1 h2 w) Xi fi1
  refine⟨_,rfl,wpAny_letOwnedTupleGo_enum eo fun h'' en sb=>⟨.ref s.heap.objs.size,_,I2.turned (it:=e) (t':=s.toks+1) (fun b o hb q=>sb.extBut b o hb q) Xi.1 Xi.2.1 Xi.2.2.2.1 Xi.2.2.2.2.1 Xi.2.2.2.2.2,rfl,⟨_,x,fr,rfl,rfl,fun ys hy=>by rw[I.wQ hy hq]; exact hx⟩,⟨⟨_,en⟩,?_⟩,fun b hb=>?_⟩⟩
  ·exact hi'.at fun o q=>sb.extBut it o (Ne.symm hne) q
  ·rcases bI.mp hb with z | z
   ·rw[z]; exact Xi.1
   ·rw[gJ.mp z]; exact fi1.1
 done:=by
  intro X hP hw hK hc i pins s σ H E I hf st hg;subst hP hw hK;obtain⟨⟨old,he⟩,hi⟩:=st;obtain⟨xs,hq,hx⟩:=hg;obtain⟨its,rv,p,hz⟩:=I.list hq;have hl:=rv.length;obtain⟨f0,f1,f2,f3,f4,f5⟩:=hf it (by simp)
  exact wpAny_pyNext_enum_end (I.ok.hd hc) he hi p.isList (by simp; omega) fun h' eb=>⟨rfl,I.turned (t':=s.toks) (fun b o hb q=>eb b o hb q) f0 f1 f3 f4 f5⟩
 self:=fun _ _ _ _ _ st h=>by
  obtain⟨⟨old,he⟩,_⟩:=st;exact wpAny_pyIter_enum he h
section
variable {X:Cx}
def U6 (K:PySem.W.Frag) (ta:TA):TI:=fun σ H R=>ta σ H fun vs H1=>∃a,vs=[.ref a]/\(∃xs,cg K H1 a xs)/\R (Yn K a) H1
theorem R0 {K:PySem.W.Frag} {e:Expr} {elts:List Expr} {x1} {tp p pos:Pos} {ta:TA} (hK:X.K=K) (hm:X.mg "enumerate" = none) (ha:PA X [e] ta) (hg:Gl X "enumerate" := by rfl) (h1:b8 e=true:=by rfl) :
  PI X (.Tuple elts x1 tp) (.Call (.Name "enumerate" p) [e] [] pos) (U6 K ta):=by
 subst hK;refine .mk ?_;intro pins s σ H R I h;refine uy (iJ I hg hm Cj ?_ (by decide) (by decide))
 refine PyProof.Rows.callWith_type1 (cI (ha pos pins s σ H _ I h) fun us s1 ⟨vs,H1,I1,r1,q1⟩=>?_) (cB h1) (cM (es:=[]) rfl);obtain⟨a,rfl,⟨xs,hq⟩,q⟩:=q1;obtain⟨u,rfl,ru⟩:=r1.one;cases ru;obtain⟨its,rv,pl,hz⟩:=I1.list hq;refine call_enumerate_list pl.isList fun h' he hi hsz kk=>?_;have I2:Inv X pins σ H1 { s1 with heap:=h' }:=I1.kept (t':=s1.toks) kk
 have f1:H1 (s1.heap.objs.size+1)=none:=I1.hok.fresh (yR _);have f0:H1 s1.heap.objs.size=none:=I1.hok.fresh (bL _);refine wpAny_pyIter_enum he ⟨s1.heap.objs.size+1,_,_,Yn X.K a,H1,rfl,I2,Km a (s1.heap.objs.size+1) s1.heap.objs.size (Nat.succ_ne_self _),⟨⟨_,he⟩,hi⟩,fun b hb=>?_,q⟩;rcases bI.mp hb with z | z
 ·rw[z]; exact I1.tR (yR _) f1
 ·rw[gJ.mp z]; exact I1.tR (bL _) f0
def EK (K:PySem.W.Frag) (g:TG) (tb:TS) (D:Ends) (σ:St) (vs:List V) (H1:Hp):Prop:=∃a,vs=[.ref a]/\(∃xs,cg K H1 a xs)/\∃W:Nat->Nat->St->Hp->Prop,(∃m,W 0 m σ H1)/\∀i m σ H,W i m σ H ->
 ((Yn K a).stop i H/\D.nx σ H)\/((Yn K a).go i H/\∃N:St->Hp->Prop,(∀σ' H',N σ' H'->∃m',m'<m/\W (i+1) m' σ' H')/\∀x H',(Yn K a).CN i H x H'->g x σ H' fun σ2 H2=>tb { D with nx:=N,ct:=N,bk:=D.nx } σ2 H2)
theorem Kq {K:PySem.W.Frag} {ta:TA} {g:TG} {tb:TS} {D:Ends} {σ:St} {H:Hp}:CW (U6 K ta) g tb D σ H=ta σ H (EK K g tb D σ):=rfl
theorem EK.of {K:PySem.W.Frag} {g:TG} {tb:TS} {D:Ends} {σ:St} {H:Hp} {a:Addr} {xs:List V} (ha:H a=some (.lst xs)) (Pv:Nat->St->Hp->Prop) (h0:Pv 0 σ H) (hl:∀i σ H',i<=xs.length->Pv i σ H'->H' a=some (.lst xs))
  (hs:∀i x σ H p,xs[i]?=some x->Pv i σ H->H p=none->g (.ref p) σ (upd H p (.tup [.int (i:Nat),x])) fun σ2 H2=>tb { D with nx:=Pv (i+1),ct:=Pv (i+1),bk:=D.nx } σ2 H2) (hd:∀σ H,Pv xs.length σ H->D.nx σ H):EK K g tb D σ [.ref a] H:=by
 refine⟨a,rfl,⟨xs,cg.of ha⟩,fun i m σ H=>m=xs.length-i/\i<=xs.length/\Pv i σ H,⟨_,rfl,gw _,h0⟩,?_⟩;rintro i m σ H ⟨rfl,hi,p⟩;have q:cg K H a xs:=cg.of (hl i σ H hi p);by_cases hlt:i<xs.length
 ·refine .inr ⟨⟨xs,xs[i],q,dN hlt⟩,Pv (i+1),fun σ' H' p'=>⟨xs.length-(i+1),by omega,rfl,hlt,p'⟩,fun x H' y=>?_⟩
  obtain⟨t,z,ht,rfl,rfl,hz⟩:=y;exact hs i z σ H t (hz xs q) p ht
 ·have e:i=xs.length:=by omega
  subst e;exact .inl ⟨⟨xs,q,bL _⟩,hd σ H p⟩
end
section
variable {X:Cx}
theorem oN:cZ X (.type "list") (fun vs H Q=>∃(p:Addr) (ys:List V),vs=[.ref p]/\H p=some (.lst ys)/\∀l,H l=none->Q (.ref l) (upd H l (.lst ys))):=by
 refine .mk ?_;intro pins s σ H vs us Q I r h;obtain⟨p,ys,e,hp,q⟩:=h;exact rJ pins s σ H vs us Q I r ⟨p,ys,e,.inl (cg.of hp),q⟩
theorem g_ {K:PySem.W.Frag} {o e:Expr} {es:List Expr} {to:TE} {t:TA} {name:Str} {apos cpos:Pos} {T id:String} {r:V->List V->Hp->VK->Prop} (hK:X.K=K) (pa:PlainAttrs T) (slot:Slot T name id) (hty:typeOf (.builtin id)=pure (.type "method_descriptor")) (hm:MtR X id r) (ho:PE X o to) (ha:PA X (e::es) t)
  (hbase:attributeBase o name X.env (eval o X.env)=eval o X.env:=by rfl)
  (hfew:((backTo cpos (starEach (e::es) X.env)).all (fun x=>!x.1)&&(backToKw cpos (keywordEach [] X.env)).all (fun x=>x.1.isSome)&&decide ((e::es).length+([]:List Keyword).length+(if([]:List Keyword).isEmpty then 0 else 1)<30))=true:=by rfl)
  (hline:(apos.endLine==cpos.line)=true:=by rfl) (hs:starEach (e::es) X.env=(false,eval e X.env)::starEach es X.env:=by rfl) (hplain:(backTo cpos (starEach es X.env)).any (·.1)=false:=by rfl):PE X (.Call (.Attribute o name apos) (e::es) [] cpos) (tBM K T r to t):=by
 subst hK;exact ZW pa slot hty hm ho ha hbase hfew hline hs hplain
end
theorem Gb:isSubtype (.type "range_iterator") (.type "reversed")=pure false:=by rw[isSubtype_type]; kernel_rfl
section
variable {prog:Program} {w:World} {A:Around} {E:Value->Shared->Prop} {s:Shared}
def vR (n:Int):Obj:={ cls:=.type "range_iterator",data:=.fields #[rawInt (n-1),rawInt n,rawInt (-1)] }
theorem xq {r:Addr} {n:Int} {t u v:Tok} {Q:Value->Shared->Prop} (hr:IsRange s.heap r 0 n 1 t u v) (h0:0<=n) (h1:n<2 ^ 62) (h:Q (.ref s.heap.objs.size) { s with heap:=s.heap.push (vR n) }) :
  wpAny (model prog w) A (call (.builtin "range.__reversed__") [.ref r]) Q E s:=by
 have hT:s.TypeIs (.ref r) "range" := ⟨_,hr,rfl⟩;refine xJ PySem.F.slot_range_reversed hT PySem.F.entry_range_reversed ?_ (PySem.F.args_range_reversed_1 _);unfold Builtin.«range.__reversed__»;refine aW (vU (a:=Value.ref r) rfl ?_)
 have rf:∀{R:Int×Int×Int->Shared->Prop},R (0,n,1) s->wpAny (model prog w) A.in1 (Builtin.Range.rangeFields (.ref r)) R E s:=fun {R} hR=>by
  unfold Builtin.Range.rangeFields;refine aW (iU hr rfl (x:=.int 0 t) rfl (aW (vU (a:=some (0:Int)) rfl ?_)));refine aW (iU hr rfl (x:=.int n u) rfl (aW (vU (a:=some n) rfl ?_)));exact aW (iU hr rfl (x:=.int 1 v) rfl (aW (vU (a:=some (1:Int)) rfl (cF hR))))
 refine aW (rf ?_);dsimp only;have sz:Builtin.Range.rangeSize 0 n 1=n:=by rw[rangeSize_one]; split <;> omega
 rw[sz]
 have sm:(Builtin.Range.rangeFitsLong 0&&Builtin.Range.rangeFitsLong n&&Builtin.Range.rangeFitsLong 1&&Builtin.Range.rangeFitsLong (-1)&&Builtin.Range.rangeFitsLong (0-1)&&Builtin.Range.rangeFitsLong n)=true:=by
  have:Builtin.Range.rangeFitsLong n=true:=by simp only[Builtin.Range.rangeFitsLong,Gx,decide_eq_true_eq]; omega
  rw[this]; decide
 rw[sm];simp only[Bool.not_true,GC,if_false,if_true];have e1:(0+(n-1)*1:Int)=n-1:=by omega
 rw[e1];exact aW (ux (cF ⟨_,rfl,h⟩))
theorem xm {r:Addr} {n:Int} {t u v:Tok} {Q:Value->Shared->Prop} (hr:IsRange s.heap r 0 n 1 t u v) (h0:0<=n) (h1:n<2 ^ 62) (h:Q (.ref s.heap.objs.size) { s with heap:=s.heap.push (vR n) }) :
  codeAny (model prog w) A (.call (.builtin "reversed.__new__") ⟨[.type "reversed",.ref r],[]⟩) (wants Q E) s:=by
 have hT:s.TypeIs (.ref r) "range" := ⟨_,hr,rfl⟩;refine codeAny_of_tree ?_;show wpAny _ A.in1 (do checkBuiltinCall "reversed.__new__" ⟨[.type "reversed",.ref r],[]⟩; again (.builtin "reversed.__new__" ⟨[.type "reversed",.ref r],[]⟩)) _ _ s
 refine aW (vU (F.newCall_reversed_1 (.ref r)) (cF ⟨plainId_quiet F.plain_reversed_new _,codeAny_builtin F.entry_reversed_new ?_⟩));rw[Around.under_plainId F.plain_reversed_new _];unfold Builtin.«reversed.__new__»;refine aW (vU (newClass_reversed (.ref r)) ?_); (try dsimp only)
 refine aW (vU (a:=()) rfl (aW (vU (a:=()) rfl ?_)));refine aW (wpAny_specialOf hT PySem.F.slot_range_reversed.lookup ?_); (try dsimp only)
 refine aW (vU (PySem.F.slot_range_reversed.bind _) ?_); (try dsimp only)
 rw[aZ (show ¬((Value.builtin "range.__reversed__" == Value.none)=true) from jE)];refine aW (qU (aW (m:=runValue (.call (.builtin "range.__reversed__") ⟨[.ref r],[]⟩)) (show wpAny _ _ (call (.builtin "range.__reversed__") [.ref r]) _ _ _ from xq hr h0 h1 ?_)))
 first
  | exact cF h
  | exact aW (cF (cF h))
theorem xn {r:Addr} {n:Int} {t u v:Tok} {Q:Value->Shared->Prop} (hr:IsRange s.heap r 0 n 1 t u v) (h0:0<=n) (h1:n<2 ^ 62) (h:Q (.ref s.heap.objs.size) { s with heap:=s.heap.push (vR n) }) :
  wpAny (model prog w) A (call (.type "reversed") [.ref r]) Q E s:=by
 refine callType_other (U:="range_iterator") (Q₁:=fun obj z=>obj=.ref s.heap.objs.size/\z={ s with heap:=s.heap.push (vR n) }) (by decide +kernel) F.create_reversed ⟨_,_,F.mro_reversed⟩ F.made_reversed Gb (F.typeCall_reversed_1 _) (xm hr h0 h1 ⟨rfl,rfl⟩) ?_
 rintro obj z ⟨rfl,rfl⟩;exact⟨⟨_,dw _ rfl,rfl⟩,h⟩
end
def Ym (n:Nat):It:=⟨fun i _=>i<n,fun i H x H'=>H'=H/\x=.int ((n:Int)-1-i),fun i _=>n<=i⟩
theorem Ng {P:Program} {w:World} {K:PySem.W.Frag} {tg:Expr} (it:Addr) (n:Nat):Turn P w K tg (Ym n) [it] it (fun i h=>IsRangeIter h it ((n:Int)-1+(i:Nat)*(-1)) ((n:Int)-(i:Nat)) (-1)) where
 mem:=by simp
 obj:=fun i h st b hb=>by
  rw[gJ.mp hb]
  exact⟨_,st,fun v z=>by
   have z':Data.fields _=Data.cell v:=z
   cases z'⟩
 keep:=fun i h h' st k=>k it (by simp) _ st
 item:=by
  intro X hP hw hK hc i pins s σ H E I hf st hg;subst hP hw hK;obtain⟨f0,f1,f2,f3,f4,f5⟩:=hf it (by simp)
  have W:=Walks.range (prog:=X.prog) (w:=X.w) (I.ok.hd hc) it ((n:Int)-1) (-1) n;refine W.item i s _ _ hg st fun v h' tk hv st' kk=>?_;obtain⟨t,rfl⟩:=hv;have I1:Inv X pins σ H { s with heap:=h',toks:=tk }:=I.turned (fun b o hb e=>kk b o (by simpa using hb) e) f0 f1 f3 f4 f5
  refine⟨_,rfl,zp (s:={ s with heap:=h',toks:=tk }) (n:="range_iterator") st' rfl rfl (by decide) ⟨.int ((n:Int)-1-i),H,I1,⟨t,?_⟩,⟨rfl,rfl⟩,st',fun b hb=>(hf b hb).1⟩⟩
  congr 1
  omega
 done:=by
  intro X hP hw hK hc i pins s σ H E I hf st hg;subst hP hw hK;obtain⟨f0,f1,f2,f3,f4,f5⟩:=hf it (by simp)
  exact wpAny_pyNext_range_end (I.ok.hd hc) st (by have:n<=i:=hg; omega) fun h' eb=>⟨rfl,I.turned (t':=s.toks) (fun b o hb e=>eb b o hb e) f0 f1 f3 f4 f5⟩
 self:=fun _ _ _ _ _ st h=>Oq st h
section
variable {X:Cx}
theorem Fb:bootBuiltins "reversed" = some (.type "reversed"):=by decide +kernel
def aai (ta:TA):TI:=fun σ H R=>ta σ H fun vs H1=>∃n:Nat,vs=[.int n]/\n<=1000000/\R (Ym n) H1
theorem Wc {tg a:Expr} {p p2 pos pos2:Pos} {ta:TA} (hm:X.mg "reversed" = none) (hm2:X.mg "range" = none) (ha:PA X [a] ta) (hg:Gl X "reversed" := by rfl) (hg2:Gl X "range" := by rfl) (h1:b8 a=true:=by rfl) :
  PI X tg (.Call (.Name "reversed" p) [.Call (.Name "range" p2) [a] [] pos2] [] pos) (aai ta):=by
 refine .mk ?_;intro pins s σ H R I h;refine uy (iJ I hg hm Fb ?_ (by decide) (by decide))
 refine PyProof.Rows.callWith_type1 ?_ (cB rfl) (cM (es:=[]) rfl);rw[cB (e:=.Call (.Name "range" p2) [a] [] pos2) rfl];show wpAny _ _ (spliced ((false,eval (.Call (.Name "range" p2) [a] [] pos2) X.env)::backTo pos (starEach [] X.env))) _ _ s;refine Calls.spliced_cons ?_;refine uy (iJ I hg2 hm2 Qw ?_ (by decide) (by decide))
 refine PyProof.Rows.callWith_type1 (cI (ha pos2 pins s σ H _ I h) fun us s1 ⟨vs,H1,I1,r1,n,e,hn,q⟩=>?_) (cB h1) (cM (es:=[]) rfl);subst e;obtain⟨u,rfl,t,rfl⟩:=r1.one;refine call_range_1 ?_;refine Calls.spliced_nil ?_;refine xn (IsRange.new ..) (by omega) (by omega) ?_
 have k2:∀b o,s1.heap.get? b=some o->((s1.heap.push { cls:=.type "range",data:=.fields #[.int 0 s1.toks,.int (n:Int) t,.int 1 (s1.toks+1)] }).push (vR n)).get? b=some o:=fun b o e=>dW _ (dW _ e);have I2:=I1.kept (t':=s1.toks+1+1) k2;generalize hh:s1.heap.push { cls:=.type "range",data:=.fields #[.int 0 s1.toks,.int (n:Int) t,.int 1 (s1.toks+1)] }=h1' at I2 ⊢;have sz:s1.heap.objs.size<=h1'.objs.size:=by rw[<- hh,gK]; exact yR _
 have st:IsRangeIter (h1'.push (vR n)) h1'.objs.size ((n:Int)-1+((0:Nat):Int)*(-1)) ((n:Int)-((0:Nat):Int)) (-1):=by
  have e1:(n:Int)-1+((0:Nat):Int)*(-1)=(n:Int)-1:=by simp
  have e2:(n:Int)-((0:Nat):Int)=n:=by simp
  rw[e1,e2];exact dw _ rfl
 refine Oq (s:={ s1 with heap:=h1'.push (vR n),toks:=s1.toks+1+1 }) (by exact st) ⟨h1'.objs.size,[h1'.objs.size],_,Ym n,H1,rfl,I2,Ng _ n,st,fun b hb=>?_,q⟩
 rw[gJ.mp hb];exact I1.tR sz (I1.hok.fresh sz)
def VK' (g:TG) (tb:TS) (D:Ends) (σ:St) (vs:List V) (H1:Hp):Prop:=∃n:Nat,vs=[.int n]/\n<=1000000/\∃W:Nat->Nat->St->Hp->Prop,(∃m,W 0 m σ H1)/\∀i m σ H,W i m σ H ->
 ((Ym n).stop i H/\D.nx σ H)\/((Ym n).go i H/\∃N:St->Hp->Prop,(∀σ' H',N σ' H'->∃m',m'<m/\W (i+1) m' σ' H')/\∀x H',(Ym n).CN i H x H'->g x σ H' fun σ2 H2=>tb { D with nx:=N,ct:=N,bk:=D.nx } σ2 H2)
theorem Nr {ta:TA} {g:TG} {tb:TS} {D:Ends} {σ:St} {H:Hp}:CW (aai ta) g tb D σ H=ta σ H (VK' g tb D σ):=rfl
theorem VK'.of {g:TG} {tb:TS} {D:Ends} {σ:St} {H:Hp} {n:Nat} {i:Int} (ei:i=n) (hn:n<=1000000) (Pv:Nat->St->Hp->Prop) (h0:Pv 0 σ H)
  (hs:∀i σ H,i<n->Pv i σ H->g (.int ((n:Int)-1-(i:Nat))) σ H fun σ2 H2=>tb { D with nx:=Pv (i+1),ct:=Pv (i+1),bk:=D.nx } σ2 H2) (hd:∀σ H,Pv n σ H->D.nx σ H):VK' g tb D σ [.int i] H:=by
 subst ei;refine⟨n,rfl,hn,fun i m σ H=>m=n-i/\i<=n/\Pv i σ H,⟨n,rfl,gw _,h0⟩,?_⟩;rintro i m σ H ⟨rfl,hi,p⟩;by_cases hlt:i<n
 ·refine .inr ⟨hlt,Pv (i+1),fun σ' H' p'=>⟨n-(i+1),by omega,rfl,hlt,p'⟩,fun x H' y=>?_⟩
  obtain⟨e1,e2⟩:=y;subst e1 e2;exact hs i σ _ hlt p
 ·have e:i=n:=by omega
  subst e;exact .inl ⟨bL _,hd σ H p⟩
end
structure Ik (K:PySem.W.Frag) (x qual:Str) (st:Stmt) (f:Addr) (fd:FuncData) (T:Addr) (i:Int) (t:Tok):Prop where
 ex:∃(oc:Value) (od:Option Addr) (kV doc pm:Value) (an:Option Addr) (cdv ct:Value) (osl:Array (Option Value)),
  fd=PySem.W.fnOf x qual (cu st) (bV st) (aF st) (.ref T) kV doc pm an cdv ct/\K.lookup f=some ⟨oc,od,.func fd,osl⟩/\PySem.W.codeIn K cdv qual=true
 kp:PySem.W.keepIn K (.ref f)=true
 df:∃o n,K.lookup T=some o/\o.data=.seq #[.int i t] n
section
variable {P:Program} {w:World} {K:PySem.W.Frag} {mg:Str->Option Value} {base:Heap}
theorem Ik.ok {x qual:Str} {st:Stmt} {f T:Addr} {i:Int} {t:Tok} {fd:FuncData} {N ps:List Str} {k:Nat} {sp:Sp} (F:Ik K x qual st f fd T i t) (S:aV N ps (aF st)) (len:∀vs H Q E,sp vs H Q E->vs.length=ps.length)
  (hb:∀(cdv:Value) (A:Around) (outer:List Env) (s:Shared) (H:Hp) (vs:List V) (Q:VK) (E:XK),fU k (A.deeper (envOfC qual (aF st) s.heap.objs.size f cdv))->sp vs H Q E ->
   ∃t,Fo (xf gf P w K mg base N qual (aF st) f cdv A outer s H E).X5 (bV st) t/\t { nx:=fun _ H'=>Q .non H',rt:=Q } (start N vs) H):bJ P w K mg base gf (k+1) f fd ps sp:=by
 obtain⟨oc,od,kV,doc,pm,an,cdv,ct,osl,rfl,lk,hcd⟩:=F.ex;exact U8 lk hcd S len fun A outer s H vs Q E hr hsp=>let ⟨t,h,q⟩:=hb cdv A outer s H vs Q E hr hsp; ⟨t,h.X5,q⟩
theorem Ik.binds {x qual:Str} {st:Stmt} {f T:Addr} {i:Int} {t:Tok} {fd:FuncData} {ps:List Str} {ds:List Value} (F:Ik K x qual st f fd T i t)
  (h:∀(kV doc pm:Value) (an:Option Addr) (cdv ct:Value) (us:List Value),(us++ds).length=ps.length->∃k,bindArgs (PySem.W.fnOf x qual (cu st) (bV st) (aF st) (.ref T) kV doc pm an cdv ct) ⟨us,[]⟩=seqItems? (.ref T) >>= k/\k (some #[.int i t])=pure (ps.zip (us++ds))):Binds K fd ps ds:=by
 obtain⟨oc,od,kV,doc,pm,an,cdv,ct,osl,rfl,lk,hcd⟩:=F.ex;obtain⟨o,n,ho,hd⟩:=F.df;intro s us KX hl;obtain⟨k,h1,h2⟩:=h kV doc pm an cdv ct us hl;exact BindsTo.of_defaults rfl (KX _ _ ho) hd h1 h2
end
structure Q5 (P:Program) (w:World) (K:PySem.W.Frag) (mg:Str->Option Value) (base:Heap) (k:Nat) (x:Str) (ps:List Str) (i:Int) (sp:Sp) where
 f:Addr
 fd:FuncData
 t:Tok
 G:bJ P w K mg base gf k f fd ps sp
 kp:PySem.W.keepIn K (.ref f)=true
 b:Binds K fd ps []
 bd:Binds K fd ps [.int i t]
 m:mg x=some (.ref f)
def Q5.mono {P:Program} {w:World} {K:PySem.W.Frag} {mg:Str->Option Value} {base:Heap} {j k:Nat} {x:Str} {ps:List Str} {i:Int} {sp:Sp} (c:Q5 P w K mg base j x ps i sp) (h:j<=k):Q5 P w K mg base k x ps i sp:={ c with G:=c.G.mono h }
section
variable {X:Cx} {x:Str} {p pos:Pos} {e:Expr} {es:List Expr} {t:TA}
theorem pfa {k:Nat} {ps:List Str} {i:Int} {sp:Sp} (c:Q5 X.prog X.w X.K X.mg X.base k x ps i sp) (hr:fU k X.A) (ha:PA X (e::es) t) (hg:Gl X x:=by rfl) (hdb:(x==("__debug__" : Str))=false:=by decide) (h1:b8 e=true:=by rfl) (h2:es.all b8=true:=by rfl) :
  PE X (.Call (.Name x p) (e::es) [] pos) (mQ sp [] E0 t):=Jv c.G hr hg c.m c.kp c.b .nil D_ ha hdb (cB h1) (cM h2)
end
end L2
theorem Qz (a b c:PySem.Value):PySem.argsOk "list.insert" ⟨[a,b,c],[]⟩:=PySem.F.args_list_insert_3 a b c
theorem Qe {j:Int} (h1:-(2 ^ 63:Int)<=j) (h2:j<2 ^ 63):¬(!PySem.Builtin.List.listFitsIndex j)=true:=by
 unfold PySem.Builtin.List.listFitsIndex;rw[oW h1,oW h2];decide
namespace L2
open PySem PySem.Spec PyProof.Rows
section
variable {X:Cx}
end
def LK (K:PySem.W.Frag) (g:TG) (tb:TS) (D:Ends) (σ:St) (x:V) (H1:Hp):Prop:=∃a,x=.ref a/\(∃xs,cg K H1 a xs)/\∃W:Nat->Nat->St->Hp->Prop,(∃m,W 0 m σ H1)/\∀i m σ H,W i m σ H ->
 ((Vj K a).stop i H/\D.nx σ H)\/((Vj K a).go i H/\∃N:St->Hp->Prop,(∀σ' H',N σ' H'->∃m',m'<m/\W (i+1) m' σ' H')/\∀x H',(Vj K a).CN i H x H'->g x σ H' fun σ2 H2=>tb { D with nx:=N,ct:=N,bk:=D.nx } σ2 H2)
theorem qG {K:PySem.W.Frag} {tl:TE} {g:TG} {tb:TS} {D:Ends} {σ:St} {H:Hp}:CW (kJ K tl) g tb D σ H=tl σ H (LK K g tb D σ):=rfl
theorem LK.of {K:PySem.W.Frag} {g:TG} {tb:TS} {D:Ends} {σ:St} {H:Hp} {a:Addr} {xs:List V} (ha:H a=some (.lst xs)) (Pv:Nat->St->Hp->Prop) (h0:Pv 0 σ H) (hl:∀i σ H',i<=xs.length->Pv i σ H'->H' a=some (.lst xs))
  (hs:∀i x σ H,xs[i]?=some x->Pv i σ H->g x σ H fun σ2 H2=>tb { D with nx:=Pv (i+1),ct:=Pv (i+1),bk:=D.nx } σ2 H2) (hd:∀σ H,Pv xs.length σ H->D.nx σ H):LK K g tb D σ (.ref a) H:=
 ⟨a,rfl,⟨xs,cg.of ha⟩,Qa (xs:=xs) Pv h0 (fun i σ H' hi p=>cg.of (hl i σ H' hi p)) hs hd⟩
end L2
namespace L2
open PySem
mutual
def tL:PyData->Bool
 | .tuple ds=>bK ds
 | .list _=>false
 | .dict _=>false
 | .none=>true
 | .bool _=>true
 | .int _=>true
 | .str _=>true
def bK:List PyData->Bool
 | []=>true
 | d::ds=>tL d&&bK ds
end
theorem bf:∀{ds:List PyData},bK ds=true↔∀d∈ds,tL d=true
 | []=>by simp[bK]
 | d::ds=>by
  have ih:=bf (ds:=ds);simp only[bK,Gx,ih,bI,forall_eq_or_imp]
mutual
theorem At.Hu {G:Hp} {p:Addr} {xs:List V} (hp:G p=some (.lst xs)):∀(d:PyData) (v:V),tL d=true->At G d v->At (hid p G) d v
 | .none,_,_,h=>by unfold At at h ⊢; exact h
 | .bool _,_,_,h=>by unfold At at h ⊢; exact h
 | .int _,_,_,h=>by unfold At at h ⊢; exact h
 | .str _,_,_,h=>by unfold At at h ⊢; exact h
 | .tuple ds,v,n,h=>by
  unfold At at h ⊢;obtain⟨a,ys,e,h1,h2⟩:=h;refine⟨a,ys,e,?_,aj.Hu hp ds ys (by simpa[tL] using n) h2⟩
  rw[cL (fun z=>by subst z; rw[hp] at h1; cases h1)]; exact h1
 | .list _,_,n,_=>by simp[tL] at n
 | .dict _,_,n,_=>by simp[tL] at n
theorem aj.Hu {G:Hp} {p:Addr} {xs:List V} (hp:G p=some (.lst xs)):∀(ds:List PyData) (ys:List V),bK ds=true->aj G ds ys->aj (hid p G) ds ys
 | [],_,_,h=>by unfold aj at h ⊢; exact h
 | d::ds,ys,n,h=>by
  unfold aj at h ⊢;obtain⟨x,r,e,h1,h2⟩:=h;have n':tL d=true/\bK ds=true:=by simpa[bK] using n
  exact⟨x,r,e,At.Hu hp d x n'.1 h1,aj.Hu hp ds r n'.2 h2⟩
end
theorem Ga:∀l:List Int,(∀c∈l,0<=c)->0<=l.sum
 | [],_=>by simp
 | x::l,h=>by rw[vV]; have:=Ga l fun c hc=>h c (g8 _ hc); have:=h x iV; omega
theorem yV {ts:List Str} {i:Int} (h0:0<=i) (h1:i<ts.length):∃t,t∈ts/\Cm (ts.map V.str) i=some (.str t):=by
 have hi:i.toNat<ts.length:=by omega
 refine⟨ts[i.toNat],nu hi,?_⟩;have:=bh (xs:=ts.map V.str) (j:=i.toNat) (v:=.str ts[i.toNat]) (by rw[cJ,dN hi]; rfl)
 rwa [show((i.toNat:Nat):Int)=i by omega] at this
theorem oA {ts:List Int} {i:Int} (h0:0<=i) (h1:i<ts.length):∃t,t∈ts/\Cm (ts.map V.int) i=some (.int t):=by
 have hi:i.toNat<ts.length:=by omega
 refine⟨ts[i.toNat],nu hi,?_⟩;have:=bh (xs:=ts.map V.int) (j:=i.toNat) (v:=.int ts[i.toNat]) (by rw[cJ,dN hi]; rfl)
 rwa [show((i.toNat:Nat):Int)=i by omega] at this
def uZ (a b:TS):TS:=Ko a b
theorem Oa (i:Nat) {e:TE} {b:TS}:Ko (z9 e (fK i)) b=uZ (z9 e (fK i)) b:=rfl
theorem Zm {c:TT} {x y b:TS}:Ko (Rm c x y) b=uZ (Rm c x y) b:=rfl
theorem uZ.of {a b:TS} {D:Ends} {σ:St} {H:Hp} (R:St->Hp->Prop) (hR:∀σ' H',R σ' H'->b D σ' H') (h:∀N:St->Hp->Prop,(∀σ' H',R σ' H'->N σ' H')->a { D with nx:=N } σ H):uZ a b D σ H:=h _ hR
theorem Ln {α:Type} {l:List α} (h:l.length=3):∃a b c,l=[a,b,c]:=by
 match l,h with
 | [a,b,c],_=>exact⟨a,b,c,rfl⟩
theorem Wz {α:Type} {l:List α} (h:l.length=5):∃a b c d e,l=[a,b,c,d,e]:=by
 match l,h with
 | [a,b,c,d,e],_=>exact⟨a,b,c,d,e,rfl⟩
theorem aP.dR {H H':Hp} {p:Addr} {o:HO} (s:aP H H') (hp:H p=none):aP H (upd H' p o):=fun b u h=>by rw[aN (cG h hp)]; exact s _ _ h
def zf:PyData->Bool
 | .list _=>true
 | _=>false
theorem JG (K:PySem.W.Frag) (d:PyData):PySem.W.kitOne K (.type (QL d)) (.type "list")=some (zf d):=by cases d <;> kernel_rfl
theorem JP {X:Cx}:cZ X (.builtin "isinstance") (Gq "list" zf):=wR JG
theorem Hh {ds:List PyData} (h:bK ds=true) {i:Nat} {d:PyData} (e:ds[i]?=some d):tL d=true:=bf.mp h d (dM e)
end L2
namespace L2
open PySem PySem.Spec PyProof.Rows
section
variable {X:Cx}
end
structure pG (X:Cx) (nt:Nat) (N':List Str) (js:List Nat) (sc:Scope):Prop where
 kind:sc.kind=.function
 lN:∀y∈sc.names,y.2≠.cell
 names:∀y∈sc.names,y.2=.local->sc.names.lookup y.1=some .local
 clos:closureFor sc X.env=pure (qt sc X.env)
 all:(sc.names.all fun y=>y.2 != .free || (X.env.cells.lookup y.1).isSome)=true
 len:N'.length=nt+js.length
 cap:∀(i j:Nat),js[i]?=some j->N'[nt+i]?=X.N[j]?
 Qo:∀y∈N'.drop nt,X.env.kindOf y=some .cell/\sc.names.lookup y=some .free
theorem rH:∀(names:List (Str×NameKind)) (h:Heap) (acc:List (Str×Addr)) (x:Str) (c:Addr),(cellsFrom h.objs.size names acc).lookup x=some c->((pushCells h names).IsCell c none/\h.objs.size<=c)\/(acc.lookup x=some c/\(x,NameKind.cell)∉names)
 | [],h,acc,x,c,e=>.inr ⟨e,by simp⟩
 | (name,kind)::r,h,acc,x,c,e=>by
  unfold cellsFrom at e;unfold pushCells;split at e
  ·rename_i hk;have hk':kind=.cell:=by simpa using hk
   rw[bu hk];have:=rH r (h.push { cls:=.type "cell",data:=.cell none }) ((name,h.objs.size)::acc) x c (by rw[gK]; exact e)
   rw[gK] at this;rcases this with⟨z,z'⟩ | ⟨z,z'⟩
   ·exact .inl ⟨z,by omega⟩
   ·rw[sZ] at z;cases hx:x==name with
    | true=>
     rw[hx] at z;cases z;refine .inl ⟨?_,bL _⟩;exact⟨_,pushCells_keeps r _ _ _ (dw _ rfl),rfl⟩
    | false=>
     rw[hx] at z;refine .inr ⟨z,fun m=>?_⟩;rcases bI.mp m with q | q
     ·have:x=name:=(Prod.mk.inj q).1;simp[this] at hx
     ·exact z' q
  ·rename_i hk;rw[aZ hk];rcases rH r h acc x c e with z | ⟨z,z'⟩
   ·exact .inl z
   ·refine .inr ⟨z,fun m=>?_⟩;rcases bI.mp m with q | q
    ·exact hk (by rw[<- (Prod.mk.inj q).2]; rfl)
    ·exact z' q
theorem HN:∀(names:List (Str×NameKind)) (n:Nat) (acc:List (Str×Addr)),(∀x y c,acc.lookup x=some c->acc.lookup y=some c->x=y)->(∀x c,acc.lookup x=some c->c<n) ->
  (∀x y c,(cellsFrom n names acc).lookup x=some c->(cellsFrom n names acc).lookup y=some c->x=y)/\True
 | [],n,acc,h,_=>⟨h,trivial⟩
 | (name,kind)::r,n,acc,h,hb=>by
  unfold cellsFrom;split
  ·refine HN r (n+1) ((name,n)::acc) (fun x y c e1 e2=>?_) (fun x c e=>?_)
   ·rw[sZ] at e1 e2;cases hx:x==name with
    | true=>
     rw[hx] at e1;cases e1;cases hy:y==name with
     | true=>rw[beq_iff_eq.mp hx,beq_iff_eq.mp hy]
     | false=>rw[hy] at e2; exact absurd (hb _ _ e2) (sX _)
    | false=>
     rw[hx] at e1;cases hy:y==name with
     | true=>rw[hy] at e2; cases e2; exact absurd (hb _ _ e1) (sX _)
     | false=>rw[hy] at e2; exact h x y c e1 e2
   ·rw[sZ] at e;cases hx:x==name with
    | true=>rw[hx] at e; cases e; exact Dk _
    | false=>rw[hx] at e; exact Dm (hb _ _ e)
  ·exact HN r n acc h hb
theorem HQ {x:Str}:∀(names:List (Str×NameKind)) (n:Nat) (acc:List (Str×Addr)),((x,NameKind.cell)∈names\/(acc.lookup x).isSome=true)->((cellsFrom n names acc).lookup x).isSome=true
 | [],n,acc,h=>by
  rcases h with h | h
  ·simp at h
  ·exact h
 | (name,kind)::r,n,acc,h=>by
  unfold cellsFrom;split
  ·rename_i hk;refine HQ r (n+1) _ ?_;rcases h with h | h
   ·rcases bI.mp h with q | q
    ·refine .inr ?_;rw[sZ,(Prod.mk.inj q).1];simp
    ·exact .inl q
   ·refine .inr ?_;rw[sZ];split
    ·rfl
    ·exact h
  ·rename_i hk;refine HQ r n acc ?_;rcases h with h | h
   ·rcases bI.mp h with q | q
    ·exact absurd (by rw[<- (Prod.mk.inj q).2]; rfl) hk
    ·exact .inl q
   ·exact .inr h
theorem BW {x:Str} {c:Addr}:∀(names:List (Str×NameKind)) (n:Nat) (acc:List (Str×Addr)),(x,NameKind.cell)∉names->acc.lookup x=some c->(cellsFrom n names acc).lookup x=some c
 | [],n,acc,_,e=>e
 | (name,kind)::r,n,acc,h,e=>by
  unfold cellsFrom;split
  ·rename_i hk;refine BW r (n+1) _ (fun m=>h (g8 _ m)) ?_;rw[sZ];cases hx:x==name with
   | true=>
    have hk':kind=.cell:=by simpa using hk
    exact absurd (by rw[beq_iff_eq.mp hx,hk']; exact iV) h
   | false=>exact e
  ·exact BW r n acc (fun m=>h (g8 _ m)) e
theorem pH {M:Model} {A:Around} {E:Value->Shared->Prop} {s:Shared} {scope:Scope} {globals:Addr} {cl:List (Str×Addr)} {qual:Str} {env:Env} {Q:Env->Shared->Prop}
  (hQ:Q { scope,locals:=s.heap.objs.size,globals,cells:=cellsFrom (s.heap.objs.size+1) scope.names cl,qual,func:=none,code:=env.code,frame:=env.frame,builtins:=env.builtins } { s with heap:=pushCells (s.heap.push { cls:=.type "dict",data:=.dict #[] }) scope.names }) :
  wpAny M A (newFunctionEnv scope globals cl [] qual none .none (some env)) Q E s:=by
 simp only[newFunctionEnv,Option.isSome_some,if_true];refine aW (wpAny_alloc ?_);refine aW (wpAny_layCells _ (fun name kind cells=>by cases hkc:kind==NameKind.cell <;> simp[hkc]) _ _ _ _ ?_)
 rw[show({ s with heap:=s.heap.push { cls:=.type "dict",data:=.dict #[] } }:Shared).heap.objs.size=s.heap.objs.size+1 from gK ..]
 simp only[Dy];exact aW (cF (cF hQ))
def oK (X:Cx) (N':List Str) (sc:Scope) (fp:List Addr) (s:Shared) (H:Hp):Cx where
 prog:=X.prog
 w:=X.w
 K:=X.K
 mg:=X.mg
 base:=X.base
 A:=X.A
 N:=N'
 s₀:=s
 H₀:=H
 env:=compEnvC sc (cellsFrom (s.heap.objs.size+1) sc.names (qt sc X.env)) s.heap.objs.size X.env
 outer:=X.stack
 stack:=X.stack
 ex:=fp
 fn:=fun y=>sc.names.lookup y==some .cell
 calm:=X.calm
 pn:=[]
 xe:=fun _ _=>False
structure rQ (X:Cx) (nt:Nat) (N':List Str) (js:List Nat) (sc:Scope):Prop where
 kind:sc.kind=.function
 cells:∀y∈sc.names,y.2=.cell->sc.names.lookup y.1=some .cell
 names:∀y∈sc.names,y.2=.local->sc.names.lookup y.1=some .local
 clos:closureFor sc X.env=pure (qt sc X.env)
 all:(sc.names.all fun y=>y.2 != .free || (X.env.cells.lookup y.1).isSome)=true
 len:N'.length=nt+js.length
 cap:∀(i j:Nat),js[i]?=some j->N'[nt+i]?=X.N[j]?
 Qo:∀y∈N'.drop nt,X.env.kindOf y=some .cell/\sc.names.lookup y=some .free
theorem zj {X:Cx} {pins:List (Addr×Obj)} {σ:St} {H:Hp} {s:Shared} {fp:List Addr} {N':List Str} {js:List Nat} {sc:Scope} {nt:Nat} {h1:Heap} {tk:Nat} (I:Inv X pins σ H s) (hf:∀b∈fp,fV X pins H b) (hlt:∀b∈fp,b<s.heap.objs.size)
  (S:rQ X nt N' js sc) (BX:∀{x:Str} {c:Addr},(cellsFrom (s.heap.objs.size+1) sc.names (qt sc X.env)).lookup x=some c->(h1.IsCell c none/\s.heap.objs.size<c)\/((qt sc X.env).lookup x=some c/\(x,NameKind.cell)∉sc.names)) (hn:h1.Ns s.heap.objs.size fun _=>none) (hk:∀b o,s.heap.get? b=some o->h1.get? b=some o):Inv (oK X N' sc fp s H) [] (List.replicate nt none++b7 js σ) H { s with heap:=h1,toks:=tk }:=by
 have old:∀x c,(qt sc X.env).lookup x=some c->c<s.heap.objs.size+1:=fun x c e=>by
  obtain⟨v,o,ho,_⟩:=I.cell x c (ie e);exact Dm (cz ho)
 refine⟨⟨I.ok.mod,S.kind,I.ok.glob,I.ok.blt,bL _,fun x y c e1 e2=>(HN sc.names _ _ (fun x y c e1 e2=>I.ok.inj x y c (ie e1) (ie e2)) old).1 x y c e1 e2,fun x hx=>?_,fun x c hf' e=>(by
   rcases BX e with z | ⟨_,z⟩
   ·exact lK z.2
   ·exact absurd (PySem.mem_of_lookup (show sc.names.lookup x=some .cell from by simpa using(show(sc.names.lookup x==some NameKind.cell)=true from hf'))) z),I.ok.hd,I.ok.frames,.inl rfl,fun b hb=>⟨fP (hlt b hb),fun x c e=>(by
   rcases BX e with z | ⟨z,_⟩
   ·exact Dh (Du (hlt b hb) z.2)
   ·exact(hf b hb).2.2.2.2.1 x c (ie z))⟩,I.bs,
  j4 I.ok.My I.sz,fun b o e hb=>?_,fun b hb z=>?_,I.stack,I.IW⟩,rfl,I.bare,Un.kept hk,⟨fun _=>none,hn,fun i x v e1 e2 e3=>?_⟩,fun x c e=>?_,I.hok.fresh (bL _),fun x c e=>(by
   rcases BX e with z | ⟨z,_⟩
   ·exact I.hok.fresh (lK z.2)
   ·exact I.kW x c (ie z)),fun p hp=>absurd (show p∈([]:List (Addr×Obj)) from hp) (by simp),I.hok.kept hk,?_⟩
 ·refine Oo.mp (HQ sc.names _ _ ?_);have hx':(relabel sc X.env).names.lookup x=some .cell\/(relabel sc X.env).names.lookup x=some .free:=hx
  have key:(x,NameKind.cell)∈sc.names\/(x,NameKind.free)∈sc.names:=by
   rcases hx' with q | q
   ·obtain⟨k,hm,e | ⟨e,_⟩⟩:=uf q
    ·rw[<- e] at hm; exact .inl hm
    ·refine .inr ?_; rw[<- e]; exact hm
   ·refine .inr ?_;obtain⟨k,hm,e | ⟨e,_⟩⟩:=uf q
    ·rw[e]; exact hm
    ·rw[<- e]; exact hm
  rcases key with key | key
  ·exact .inl key
  have a:=oX.mp S.all _ key;have a':(X.env.cells.lookup x).isSome=true:=by simpa using a
  obtain⟨c,hc⟩:=Oo.mp a';exact .inr (Oo.mpr ⟨c,HJ hc sc.names [] key⟩)
 ·rcases(hf b hb).2.2.2.1 with z | z
  ·exact I.ok.Hg b o e z
  ·exact absurd (mF (cz e) (j4 I.ok.My z)) (sX _)
 ·rcases bI.mp (I.Ge b z) with q | q
  ·exact(hf b hb).2.1 q
  ·exact(hf b hb).2.2.1 q
 ·by_cases hlt:i<nt
  ·rw[KQ (by rw[tH]; exact hlt),Jq,bu hlt] at e2
   cases e2
  ·obtain⟨i',rfl⟩:∃i',i=nt+i':=⟨i-nt,by omega⟩
   rw[Ds (by rw[tH]; omega),tH,Nat.add_sub_cancel_left] at e2
   have e2':(b7 js σ)[i']?=some (some v):=e2;unfold b7 at e2';rw[cJ] at e2';cases hj:js[i']? with
   | none=>rw[hj] at e2'; simp at e2'
   | some j=>
    rw[hj] at e2';have e4:(σ[j]?).join=some v:=by simpa using e2'
    have e5:σ[j]?=some (some v):=by
     cases q:σ[j]? with
     | none=>rw[q] at e4; simp at e4
     | some z=>rw[q] at e4; simp at e4; rw[e4]
    have e6:X.N[j]?=some x:=by rw[<- S.cap i' j hj]; exact e1
    have mem:x∈N'.drop nt:=by
     have e1':N'[nt+i']?=some x:=e1;exact dM (i:=i') (by rw[DR]; exact e1')
    obtain⟨k1,k2⟩:=S.Qo x mem;obtain⟨m,_,hl⟩:=I.loc;obtain⟨u,r,l⟩:=hl j x v e6 e5 (.inr (.inl k1));refine⟨u,r,.inr ⟨.inl (qR I.ok.kind k1 sc.names k2),?_⟩⟩;rcases l with⟨z,_⟩ | ⟨_,c,hc,hcell⟩
    ·rw[k1] at z; cases z
    ·obtain⟨o,ho,hd⟩:=hcell;exact⟨c,BW sc.names _ _ (fun z=>by have:=S.cells _ z rfl; rw[k2] at this; cases this) (HJ hc sc.names [] (PySem.mem_of_lookup k2)),o,hk c o ho,hd⟩
 ·rcases BX e with z | ⟨z,_⟩
  ·exact⟨none,z.1⟩
  ·obtain⟨v,o,ho,hd⟩:=I.cell x c (ie z);exact⟨v,o,hk c o ho,hd⟩
 ·show(List.replicate nt none++b7 js σ).length=N'.length;rw[S.len]; simp[b7]
theorem J6:∀{names:List (Str×NameKind)} {n:Nat} {acc:List (Str×Addr)},(∀y∈names,y.2≠.cell)->cellsFrom n names acc=acc
 | [],_,_,_=>rfl
 | (name,kind)::r,n,acc,h=>by
  unfold cellsFrom;rw[aZ (fun z=>h _ iV (by simpa using z))]
  exact J6 fun y hy=>h y (g8 _ hy)
theorem zM {X:Cx} {N':List Str} {sc:Scope} {fp:List Addr} {s:Shared} {H:Hp} (h:∀y∈sc.names,y.2≠.cell):QZ X N' sc fp s H=oK X N' sc fp s H:=by
 have e:(fun _:Str=>false)=fun y=>sc.names.lookup y==some .cell:=funext fun y=>by
  cases z:sc.names.lookup y==some NameKind.cell with
  | false=>rfl
  | true=>exact absurd rfl (h _ (PySem.mem_of_lookup (by simpa using z)))
 unfold QZ oK;rw[J6 h,e]
theorem pG.toD {X:Cx} {nt:Nat} {N':List Str} {js:List Nat} {sc:Scope} (S:pG X nt N' js sc):rQ X nt N' js sc:=⟨S.kind,fun y hy e=>absurd e (S.lN y hy),S.names,S.clos,S.all,S.len,S.cap,S.Qo⟩
structure Cv (X:Cx) (ifs:List Expr) (t:TT):Prop where
 mk ::
 go:∀(pins:List (Addr×Obj)) (s:Shared) (σ:St) (H:Hp) (Q:Bool->Hp->Prop),Inv X pins σ H s->t σ H Q->wpAny (model X.prog X.w) X.A (forIn ifs true fun c r=>if r=true then do let ok <- isTrue c X.env (eval c X.env); pure (ForInStep.yield ok) else pure (ForInStep.yield r)) (TP X pins σ Q) X.xe s
instance {X:Cx} {ifs:List Expr} {t:TT}:CoeFun (Cv X ifs t) (fun _=>
 ∀(pins:List (Addr×Obj)) (s:Shared) (σ:St) (H:Hp) (Q:Bool->Hp->Prop),Inv X pins σ H s->t σ H Q->wpAny (model X.prog X.w) X.A (forIn ifs true fun c r=>if r=true then do let ok <- isTrue c X.env (eval c X.env); pure (ForInStep.yield ok) else pure (ForInStep.yield r)) (TP X pins σ Q) X.xe s):=⟨Cv.go⟩
def rZ:TT:=fun _ H Q=>Q true H
theorem ik {X:Cx}:Cv X [] rZ:=.mk fun pins s σ H Q I h=>wpAny_tests_nil ⟨H,I,h⟩
theorem Tc {X:Cx} {c:Expr} {t:TT} (h:PT X c t):Cv X [c] t:=.mk fun pins s σ H Q I q=>wpAny_tests_one (h pins s σ H Q I q)
def eV (nt:Nat) (js:List Nat) (wi:TI) (g:TG) (tc:TT) (te:TE):TE:=fun σ H Q=>wi σ H fun J H1=>∀acc,H1 acc=none->∃W:Nat->Nat->List V->Hp->Prop,(∃m,W 0 m [] (upd H1 acc (.lst [])))/\∀i m ys H2,W i m ys H2 ->
 (J.stop i H2/\Q (.ref acc) H2)\/(J.go i H2/\∀x H3,J.CN i H2 x H3->g x (List.replicate nt none++b7 js σ) H3 fun σ' H'=>(σ'.drop nt=b7 js σ/\σ'.length=(List.replicate nt (none:Option V)++b7 js σ).length)/\tc σ' H' fun b dC=>
  if b=true then te σ' dC fun y H4=>H4 acc=some (.lst ys)/\ys.length<sizeLine/\∃m',m'<m/\W (i+1) m' (ys++[y]) (upd H4 acc (.lst (ys++[y]))) else ∃m',m'<m/\W (i+1) m' ys dC)
theorem BP {prog:Program} {w:World} {A:Around} {R:Result->Shared->Prop} {s:Shared} {elt target iter:Expr} {ifs:List Expr} {sc:Scope} {pos:Pos} {it acc:Value} {env:Env} (Iv:Nat->Shared->Prop)
  (turn:∀n s,Iv n s->wpAny (model prog w) A (pyNext it) (fun r s1=>match r with
   | none=>R (.ok .next) s1
   | some v=>wpAny (model prog w) A (letOwnedTupleGo target it v) (fun _ s2=>wpAny (model prog w) A (assign target env v) (fun _ s3=>
     wpAny (model prog w) A (forIn ifs true fun c r=>if r=true then do let ok <- isTrue c env (eval c env); pure (ForInStep.yield ok) else pure (ForInStep.yield r)) (fun ok s3'=>
     if ok=true then wpAny (model prog w) A (eval elt env) (fun x s4=>
     wpAny (model prog w) A (call (.builtin "list.append") [acc,x]) (fun _ s5=>∃m,m<n/\Iv m s5) (fun _ _=>False) s4) (fun _ _=>False) s3' else ∃m,m<n/\Iv m s3') (fun _ _=>False) s3) (fun _ _=>False) s2) (fun _ _=>False) s1) (fun _ _=>False) s)
  (n:Nat) (h:Iv n s):codeAny (model prog w) A (.compLoop (.ListComp elt [⟨target,iter,ifs,0⟩] sc pos) 0 it acc env) R s:=by
 refine codeAny_loop rfl Iv (fun n s hI=>?_) n h;show wpAny _ _ ((compTurn (.ListComp elt [⟨target,iter,ifs,0⟩] sc pos) 0 it acc env).onRaise (fun x=>do noteFrame x env; theTreesLotGoes x)) _ _ s
 refine wpAny_noted ?_;rw[compTurn_list];refine aW (Ai (aW (oU (turn n s hI) (fun r s1 q1=>?_) fun _ _ f=>f.elim)));cases r with
 | none=>exact cF q1
 | some v=>
  refine aW (oU q1 (fun _ s2 q2=>?_) fun _ _ f=>f.elim);refine aW (oU q2 (fun _ s3 q3=>aW (oU q3 (fun ok s3' q3'=>?_) fun _ _ f=>f.elim)) fun _ _ f=>f.elim);cases ok with
  | false=>exact cF ⟨rfl,q3'⟩
  | true=>exact aW (aW (oU q3' (fun x s4 q4=>aW (oU q4 (fun _ s5 q5=>cF (cF ⟨rfl,q5⟩)) fun _ _ f=>f.elim)) fun _ _ f=>f.elim))
theorem xg {X:Cx} {elt iter:Expr} {tg:Expr} {ifs:List Expr} {g:TG} {tc:TT} {nt:Nat} {pos:Pos} {sc:Scope} {wi:TI} {te:TE} {N':List Str} {js:List Nat} {use:Option (Value->Sem Unit)} {Qc:Value->Shared->Prop} {pins:List (Addr×Obj)} {s:Shared} {σ:St} {H:Hp} {Q:VK} {kp:Pos} (hc:X.calm=true) (hi:PI X tg iter wi) (S:rQ X nt N' js sc)
  (hgt:∀fp s H,PG (oK X N' sc fp s H) tg g) (hif:∀fp s H,Cv (oK X N' sc fp s H) ifs tc) (he:∀fp s H,PE (oK X N' sc fp s H) elt te) (hs:∀x,foldedSetIterable iter X.env x=pure x) (I:Inv X pins σ H s) (h:eV nt js wi g tc te σ H Q)
  (fin:∀(acc C:Addr) (H':Hp) (s':Shared),Inv X pins σ H' s'->fV X pins H' C->(∃m,s'.heap.Ns C m)->Q (.ref acc) H'->compPost (model X.prog X.w) X.A X.xe use Qc (.ref acc) C (.ok .next) s') :
  wpAny (model X.prog X.w) X.A (comprehension (.ListComp elt [⟨tg,iter,ifs,0⟩] sc pos) sc X.env kp (newList []) false (eval iter X.env) use) Qc X.xe s:=by
 refine wpAny_comprehension_free (use:=use) rfl hs S.clos S.kind S.names ?_;refine cI (hi pins s σ H _ I h) fun v s1 q1=>cI q1 fun itv s2 q2=>?_;obtain⟨it,fp,tn,J,H2,e,I2,T,st2,f2,q3⟩:=q2;subst e;refine ux ?_;obtain⟨W,⟨m0,w0⟩,turn⟩:=q3 s2.heap.objs.size I2.fresh;have I3:=I2.Wy (ys:=[]) (its:=[]) (t':=s2.toks) .nil (gw _)
 have lt2:∀b∈fp,b<s2.heap.objs.size:=fun b hb=>by
  obtain⟨o,ho,_⟩:=T.obj 0 _ st2 b hb;exact cz ho
 generalize e3:({ s2 with heap:=s2.heap.push { cls:=.type "list",data:=.seq ([]:List Value).toArray },toks:=s2.toks }:Shared)=s3 at I3
 have e3':({ s2 with heap:=s2.heap.push { cls:=.type "list",dict:=none,data:=.seq ([]:List Value).toArray } }:Shared)=s3:=e3
 have sz3:s3.heap.objs.size=s2.heap.objs.size+1:=by rw[<- e3]; exact gK ..
 have st3:tn 0 s3.heap:=T.keep 0 _ _ st2 fun b hb o ho=>by rw[<- e3]; exact dW _ ho
 have lt3:∀b∈fp,b<s3.heap.objs.size:=fun b hb=>by rw[sz3]; exact Dm (lt2 b hb)
 have f3:∀b∈fp,fV X pins (upd H2 s2.heap.objs.size (.lst [])) b:=fun b hb=>⟨by rw[aN (fP (lt2 b hb))]; exact(f2 b hb).1,(f2 b hb).2⟩
 generalize hH3:upd H2 s2.heap.objs.size (.lst [])=H3 at I3 f3 w0;refine pH ?_;generalize Xl:pushCells (s3.heap.push { cls:=.type "dict",data:=.dict #[] }) sc.names=h1;have hk:∀b o,s3.heap.get? b=some o->h1.get? b=some o:=fun b o q=>by rw[<- Xl]; exact pushCells_keeps _ _ b o (dW _ q)
 have hns':h1.Ns s3.heap.objs.size fun _=>none:=by rw[<- Xl]; exact(Heap.Ns.new s3.heap (.type "dict")).keeps (pushCells_keeps _ _)
 have I4:Inv (oK X N' sc fp s3 H3) [] (List.replicate nt none++b7 js σ) H3 { s3 with heap:=h1,toks:=s3.toks }:=zj I3 f3 lt3 S (fun {x c} e=>by
  have:=rH sc.names (s3.heap.push { cls:=.type "dict",data:=.dict #[] }) (qt sc X.env) x c (by rw[gK]; exact e)
  rw[Xl,gK] at this
  exact this) hns' hk
 have Zg:tn 0 h1:=T.keep 0 _ _ st3 fun b hb o ho=>hk b o ho;have stat:∀{H':Hp},(∀b∈fp,H' b=none)->∀b∈fp,fV (oK X N' sc fp s3 H3) [] H' b:=fun hn b hb=>⟨hn b hb,fP (lt3 b hb),I4.ok.Ma b hb,.inl hb,(I4.ok.exf b hb).2,fun p hp=>absurd (show p∈([]:List (Addr×Obj)) from hp) (by simp)⟩
 have out:∀{σ':St} {H':Hp} {s':Shared},Inv (oK X N' sc fp s3 H3) [] σ' H' s'->Q (.ref s2.heap.objs.size) H'->compPost (model X.prog X.w) X.A X.xe use Qc (.ref s2.heap.objs.size) s3.heap.objs.size (.ok .next) s':=by
  intro σ' H' s' I' q';obtain⟨m,hn,_⟩:=id I'.loc;have I5:Inv X pins σ H' s':=I3.call' I'.os I'.base I'.hok I'.bare fun b hb=>⟨(f3 b hb).2.2.2.1,(f3 b hb).2.1,(f3 b hb).2.2.2.2.1,(f3 b hb).2.2.2.2.2⟩;exact fin _ _ H' s' I5 (I3.tR (bL _) I'.free) ⟨m,hn⟩ q'
 have loop:∀s4:Shared,s4={ s3 with heap:=h1,toks:=s3.toks }->codeAny (model X.prog X.w) X.A (.compLoop (.ListComp elt [⟨tg,iter,ifs,0⟩] sc pos) 0 (.ref it) (.ref s2.heap.objs.size) (compEnvC sc (cellsFrom (s3.heap.objs.size+1) sc.names (qt sc X.env)) s3.heap.objs.size X.env))
   (compPost (model X.prog X.w) X.A X.xe use Qc (.ref s2.heap.objs.size) s3.heap.objs.size) s4:=by
  rintro s4 rfl;refine BP (fun n s'=>∃i ys H',Inv (oK X N' sc fp s3 H3) [] (List.replicate nt none++b7 js σ) H' s'/\tn i s'.heap/\(∀b∈fp,H' b=none)/\W i n ys H') ?_ m0 ⟨0,[],H3,I4,Zg,fun b hb=>(f3 b hb).1,w0⟩;rintro n s5 ⟨i,ys,H5,I5,Ro,Xg,w5⟩;rcases turn i n ys H5 w5 with⟨stop,qn⟩ | ⟨go,step⟩
  ·refine cI (T.done (oK X N' sc fp s3 H3) rfl rfl rfl hc i [] s5 _ H5 (fun _ _=>False) I5 (stat Xg) Ro stop) fun r s6 qx=>?_;obtain⟨hr,I6⟩:=qx;subst hr;exact out I6 qn
  ·refine cI (T.item (oK X N' sc fp s3 H3) rfl rfl rfl hc i [] s5 _ H5 (fun _ _=>False) I5 (stat Xg) Ro go) fun r s6 qx=>?_;obtain⟨u,hr,q6⟩:=qx;subst hr;refine cI q6 fun _ s7 qx=>?_;obtain⟨y,H7,I7,r7,y7,Rn,U7⟩:=qx;have I7':=I7.pinned (stat U7) (T.obj _ _ Rn);refine cI (hgt fp s3 H3 _ s7 _ H7 y u _ I7' r7 (step y _ y7)) fun _ s8 qx=>?_;obtain⟨σ8,H8,I8,hsh,q8⟩:=qx;refine cI (hif fp s3 H3 _ s8 _ _ _ I8 q8) fun b s8' qx=>?_;obtain⟨H8',I8',q8'⟩:=qx
   have wk:∀k v,(List.replicate nt none++b7 js σ)[k]?=some (some v)->σ8[k]?=some (some v):=fun k v e=>by
    by_cases hlt:k<nt
    ·rw[KQ (by rw[tH]; exact hlt),Jq,bu hlt] at e
     cases e
    ·rw[Ds (by rw[tH]; omega),tH,<- hsh.1,DR] at e
     rw[show nt+(k-nt)=k by omega] at e
     exact e
   cases b with
   | true=>
    rw[bu rfl] at q8' ⊢;refine cI (he fp s3 H3 _ s8' _ _ _ I8' q8') fun z s9 qx=>?_;obtain⟨vz,H9,I9,r9,ha,hz,m',hm,w9⟩:=qx;refine cI (fC (X:=oK X N' sc fp s3 H3) _ s9 _ H9 (.ref s2.heap.objs.size) [vz] (.ref s2.heap.objs.size) [z] (fun _ H'=>H'=upd H9 s2.heap.objs.size (.lst (ys++[vz]))) I9 rfl (.cons r9 .nil) ⟨_,ys,vz,rfl,rfl,ha,hz,rfl⟩) fun _ Ag qx=>?_;obtain⟨_,J_,Yo,_,e10⟩:=qx;subst e10;refine⟨m',hm,i+1,ys++[vz],_,(Yo.iw).weak hsh.2.symm wk,T.keep _ _ _ Rn fun b hb o e=>(Yo.pin (b,o) (iG _ (iG _ (dg hb e)))).1,fun b hb=>?_,w9⟩;obtain⟨o,e,d⟩:=T.obj _ _ Rn b hb;exact(Yo.pin (b,o) (iG _ (iG _ (dg hb e)))).2.1
   | false=>
    rw[aZ (by decide)] at q8' ⊢
    obtain⟨m',hm,w9⟩:=q8';refine⟨m',hm,i+1,ys,_,(I8'.iw).weak hsh.2.symm wk,T.keep _ _ _ Rn fun b hb o e=>(I8'.pin (b,o) (iG _ (iG _ (dg hb e)))).1,fun b hb=>?_,w9⟩;obtain⟨o,e,d⟩:=T.obj _ _ Rn b hb;exact(I8'.pin (b,o) (iG _ (iG _ (dg hb e)))).2.1
 exact codeAny_compStart_list (loop _ rfl) (T.self X.A 0 _ _ _ Zg (loop _ rfl))
theorem Ox {X:Cx} {elt iter:Expr} {tg:Expr} {ifs:List Expr} {g:TG} {tc:TT} {nt:Nat} {y:Str} {py pos spos:Pos} {sc:Scope} {wi:TI} {te:TE} {N':List Str} {js:List Nat} {i:Nat} (hN:X.N.Nodup) (hi':X.N[i]?=some y) (hy:Loc X.env.scope y) (hc:X.calm=true) (hi:PI X tg iter wi) (S:rQ X nt N' js sc)
  (hgt:∀fp s H,PG (oK X N' sc fp s H) tg g) (hif:∀fp s H,Cv (oK X N' sc fp s H) ifs tc) (he:∀fp s H,PE (oK X N' sc fp s H) elt te) (hs:∀x,foldedSetIterable iter X.env x=pure x:=by intro _; rfl) (hw:swapsWith (.ListComp elt [⟨tg,iter,ifs,0⟩] sc pos) (some (.Name y py)) spos.line X.env=pure true:=by rfl)
  (hf:X.fn y=true\/X.env.scope.names.lookup y=some .local:=by first | exact .inl rfl | exact .inr rfl | assumption) :
  PS X (.Assign [.Name y py] (.ListComp elt [⟨tg,iter,ifs,0⟩] sc pos) spos) (z9 (eV nt js wi g tc te) (fK i)):=by
 refine .mk ?_;intro pins s σ H D I h;rw[exec_Assign_Name_used _ _ _ _ hw];refine aW (Ai (aW ?_));refine aW (xg hc hi S hgt hif he hs I h fun acc C H' s' I5 fc ⟨m,hn⟩ q=>?_)
 have ho:∀b∈[C],∃o,s'.heap.get? b=some o/\∀v,o.data≠.cell v:=fun b hb=>by
  rw[gJ.mp hb];obtain⟨o,es,n,e,ed,_⟩:=hn;exact⟨o,e,fun v z=>by rw[ed] at z; cases z⟩
 have I6:=I5.pinned (fp:=[C]) (fun b hb=>by rw[gJ.mp hb]; exact fc) ho
 have hg:PG X (.Name y py) (fK i):=aJ hN hi' hy hf;show wpAny _ _ (assign (.Name y py) X.env (.ref acc)) (fun _ s''=>∃m,s''.heap.Ns C m/\∀h',Heap.SameBut C s''.heap h'->_) _ s';refine cI (hg _ s' _ H' (.ref acc) (.ref acc) _ I6 rfl q) fun _ s7 qx=>?_;obtain⟨σ7,H7,I7,q7⟩:=qx
 have pc:∀o,s'.heap.get? C=some o->s7.heap.get? C=some o/\H7 C=none:=fun o e=>by
  have:=I7.pin (C,o) (iG _ (iG _ (dg (by simp) e)))
  exact⟨this.1,this.2.1⟩
 refine⟨m,hn.at fun o e=>(pc o e).1,fun h' sb=>cF (cF ⟨σ7,H7,?_,q7⟩)⟩
 have fr:H7 C=none:=by
  obtain⟨o,es,n,e,ed,_⟩:=hn;exact(pc o e).2
 exact I7.iw.turned (it:=C) (t':=s7.toks) (fun b o hb e=>sb.extBut b o hb e) fr fc.2.1 fc.2.2.2.1 fc.2.2.2.2.1 fc.2.2.2.2.2
theorem O3 {X:Cx} {elt iter tg:Expr} {ifs:List Expr} {g:TG} {tc:TT} {nt:Nat} {pos:Pos} {sc:Scope} {wi:TI} {te:TE} {N':List Str} {js:List Nat} (hc:X.calm=true) (hi:PI X tg iter wi) (S:rQ X nt N' js sc)
  (hgt:∀fp s H,PG (oK X N' sc fp s H) tg g) (hif:∀fp s H,Cv (oK X N' sc fp s H) ifs tc) (he:∀fp s H,PE (oK X N' sc fp s H) elt te) (hs:∀x,foldedSetIterable iter X.env x=pure x:=by intro _; rfl):PE X (.ListComp elt [⟨tg,iter,ifs,0⟩] sc pos) (eV nt js wi g tc te):=by
 refine .mk ?_;intro pins s σ H Q I h;rw[eval_ListComp];refine xg (use:=none) hc hi S hgt hif he hs I h fun acc C H' s' I5 fc ⟨m,hn⟩ q=>?_;refine⟨m,hn,fun h' sb=>?_⟩;exact⟨.ref acc,H',I5.turned (it:=C) (t':=s'.toks) (fun b o hb q=>sb.extBut b o hb q) fc.1 fc.2.1 fc.2.2.2.1 fc.2.2.2.2.1 fc.2.2.2.2.2,rfl,q⟩
theorem rQ.of {X:Cx} {nt:Nat} {N':List Str} {js:List Nat} {sc:Scope} (k:sc.kind=.function:=by rfl) (n:(sc.names.all fun y=>y.2 != .cell || sc.names.lookup y.1==some .cell)=true:=by decide +kernel)
  (l:(sc.names.all fun y=>y.2 != .local || sc.names.lookup y.1==some .local)=true:=by decide +kernel) (al:(sc.names.all fun y=>y.2 != .free || (X.env.cells.lookup y.1).isSome)=true:=by rfl)
  (ln:N'.length=nt+js.length:=by rfl) (cp:(N'.drop nt).map some=js.map (fun j=>X.N[j]?):=by rfl) (ck:((N'.drop nt).all fun y=>X.env.kindOf y==some .cell&&sc.names.lookup y==some .free)=true:=by rfl):rQ X nt N' js sc:=by
 have n':∀y∈sc.names,y.2=.cell->sc.names.lookup y.1=some .cell:=fun y hy hc=>by
  have:=oX.mp n y hy;rw[hc] at this;simpa using this
 refine⟨k,n',nG l,jy al,al,ln,fun i j h=>?_,fun y h=>?_⟩
 ·have:=nq (fun l=>l[i]?) cp;simp only[cJ,DR,h,Option.map_some] at this;cases e:N'[nt+i]? with
  | none=>rw[e] at this; cases this
  | some y=>rw[e] at this; exact Option.some.inj this
 ·have:=oX.mp ck y h;simpa using this
theorem qW {X:Cx} {elt iter:Expr} {tg:Expr} {ifs:List Expr} {g:TG} {tc:TT} {nt:Nat} {y:Str} {py pos spos:Pos} {sc:Scope} {wi:TI} {te:TE} {N':List Str} {js:List Nat} {i:Nat} (hN:X.N.Nodup) (hi':X.N[i]?=some y) (hy:Loc X.env.scope y) (hc:X.calm=true) (hi:PI X tg iter wi) (S:pG X nt N' js sc)
  (hgt:∀fp s H,PG (QZ X N' sc fp s H) tg g) (hif:∀fp s H,Cv (QZ X N' sc fp s H) ifs tc) (he:∀fp s H,PE (QZ X N' sc fp s H) elt te) (hs:∀x,foldedSetIterable iter X.env x=pure x:=by intro _; rfl) (hw:swapsWith (.ListComp elt [⟨tg,iter,ifs,0⟩] sc pos) (some (.Name y py)) spos.line X.env=pure true:=by rfl)
  (hf:X.fn y=true\/X.env.scope.names.lookup y=some .local:=by first | exact .inl rfl | exact .inr rfl | assumption) :
  PS X (.Assign [.Name y py] (.ListComp elt [⟨tg,iter,ifs,0⟩] sc pos) spos) (z9 (eV nt js wi g tc te) (fK i)):=Ox hN hi' hy hc hi S.toD (fun fp s H=>zM S.lN▸hgt fp s H) (fun fp s H=>zM S.lN▸hif fp s H) (fun fp s H=>zM S.lN▸he fp s H) hs hw hf
theorem jr {X:Cx} {elt iter tg:Expr} {ifs:List Expr} {g:TG} {tc:TT} {nt:Nat} {pos:Pos} {sc:Scope} {wi:TI} {te:TE} {N':List Str} {js:List Nat} (hc:X.calm=true) (hi:PI X tg iter wi) (S:pG X nt N' js sc)
  (hgt:∀fp s H,PG (QZ X N' sc fp s H) tg g) (hif:∀fp s H,Cv (QZ X N' sc fp s H) ifs tc) (he:∀fp s H,PE (QZ X N' sc fp s H) elt te) (hs:∀x,foldedSetIterable iter X.env x=pure x:=by intro _; rfl):PE X (.ListComp elt [⟨tg,iter,ifs,0⟩] sc pos) (eV nt js wi g tc te):=O3 hc hi S.toD (fun fp s H=>zM S.lN▸hgt fp s H) (fun fp s H=>zM S.lN▸hif fp s H) (fun fp s H=>zM S.lN▸he fp s H) hs
theorem qC.toG {X:Cx} {N':List Str} {js:List Nat} {sc:Scope} (S:qC X N' js sc):pG X 1 N' js sc:=⟨S.kind,S.lN,S.names,S.clos,S.all,by rw[S.len,Nat.add_comm],fun i j h=>by rw[Nat.add_comm]; exact S.cap i j h,fun y h=>S.Qo y (by rw[<- List.drop_one]; exact h)⟩
theorem Iz {js:List Nat} {wi:TI} {te:TE}:gQ js wi te=eV 1 js wi (fK 0) rZ te:=by
 funext σ H Q
 have e:∀(x:V) (H3:Hp) (K1:VK) (K2:Hp->Prop),te (some x::b7 js σ) H3 K1=fK 0 x (List.replicate 1 none++b7 js σ) H3 fun σ' H'=>(σ'.drop 1=b7 js σ/\σ'.length=(List.replicate 1 (none:Option V)++b7 js σ).length)/\rZ σ' H' fun b dC=>if b=true then te σ' dC K1 else K2 dC:=fun x H3 K1 K2=>propext ⟨fun h=>⟨⟨rfl,rfl⟩,h⟩,fun h=>h.2⟩
 unfold gQ eV;refine nq (wi σ H) (funext fun J=>funext fun H1=>?_);refine propext ⟨fun h acc ha=>?_,fun h acc ha=>?_⟩
 ·obtain⟨W,h0,hs⟩:=h acc ha;refine⟨W,h0,fun i m ys H2 w=>(hs i m ys H2 w).imp id fun z=>⟨z.1,fun x H3 y=>?_⟩⟩;have:=z.2 x H3 y;rw[e x H3 _ fun dC=>∃m',m'<m/\W (i+1) m' ys dC] at this;exact this
 ·obtain⟨W,h0,hs⟩:=h acc ha;refine⟨W,h0,fun i m ys H2 w=>(hs i m ys H2 w).imp id fun z=>⟨z.1,fun x H3 y=>?_⟩⟩;rw[e x H3 _ fun dC=>∃m',m'<m/\W (i+1) m' ys dC];exact z.2 x H3 y
theorem cV {X:Cx} {elt iter:Expr} {x:Str} {px pos:Pos} {sc:Scope} {wi:TI} {te:TE} {N':List Str} {js:List Nat} (hc:X.calm=true) (hi:PI X (.Name x px) iter wi) (S:qC X N' js sc) (h0:N'[0]?=some x) (nd:N'.Nodup)
  (hx:sc.names.lookup x=some .local) (he:∀fp s H,PE (QZ X N' sc fp s H) elt te) (hs:∀x,foldedSetIterable iter X.env x=pure x:=by intro _; rfl):PE X (.ListComp elt [⟨.Name x px,iter,[],0⟩] sc pos) (gQ js wi te):=by
 rw[Iz];exact jr hc hi S.toG (fun _ _ _=>aJ nd h0 (.inl (fY hx)) (.inr (fY hx))) (fun _ _ _=>ik) he hs
theorem Al {X:Cx} {elt iter:Expr} {x y:Str} {px py pos spos:Pos} {sc:Scope} {wi:TI} {te:TE} {N':List Str} {js:List Nat} {i:Nat} (hN:X.N.Nodup) (hi':X.N[i]?=some y) (hy:Loc X.env.scope y) (hc:X.calm=true) (hi:PI X (.Name x px) iter wi) (S:qC X N' js sc) (h0:N'[0]?=some x) (nd:N'.Nodup)
  (hx:sc.names.lookup x=some .local) (he:∀fp s H,PE (QZ X N' sc fp s H) elt te) (hs:∀x,foldedSetIterable iter X.env x=pure x:=by intro _; rfl) (hw:swapsWith (.ListComp elt [⟨.Name x px,iter,[],0⟩] sc pos) (some (.Name y py)) spos.line X.env=pure true:=by rfl)
  (hf:X.fn y=true\/X.env.scope.names.lookup y=some .local:=by first | exact .inl rfl | exact .inr rfl | assumption) :
  PS X (.Assign [.Name y py] (.ListComp elt [⟨.Name x px,iter,[],0⟩] sc pos) spos) (z9 (gQ js wi te) (fK i)):=by
 rw[Iz];exact qW hN hi' hy hc hi S.toG (fun _ _ _=>aJ nd h0 (.inl (fY hx)) (.inr (fY hx))) (fun _ _ _=>ik) he hs hw hf
theorem pG.of {X:Cx} {nt:Nat} {N':List Str} {js:List Nat} {sc:Scope} (k:sc.kind=.function:=by rfl) (n:(sc.names.all fun y=>y.2 != .cell)=true:=by decide +kernel)
  (l:(sc.names.all fun y=>y.2 != .local || sc.names.lookup y.1==some .local)=true:=by decide +kernel) (al:(sc.names.all fun y=>y.2 != .free || (X.env.cells.lookup y.1).isSome)=true:=by rfl)
  (ln:N'.length=nt+js.length:=by rfl) (cp:(N'.drop nt).map some=js.map (fun j=>X.N[j]?):=by rfl) (ck:((N'.drop nt).all fun y=>X.env.kindOf y==some .cell&&sc.names.lookup y==some .free)=true:=by rfl):pG X nt N' js sc:=by
 have n':∀y∈sc.names,y.2≠.cell:=fun y hy=>by have:=oX.mp n y hy; simpa using this
 refine⟨k,n',nG l,jy al,al,ln,fun i j h=>?_,fun y h=>?_⟩
 ·have:=nq (fun l=>l[i]?) cp;simp only[cJ,DR,h,Option.map_some] at this;cases e:N'[nt+i]? with
  | none=>rw[e] at this; cases this
  | some y=>rw[e] at this; exact Option.some.inj this
 ·have:=oX.mp ck y h;simpa using this
def LCK (K:PySem.W.Frag) (js:List Nat) (te:TE) (σ:St) (Q:VK) (x:V) (H1:Hp):Prop:=gQ js (kJ K fun _ H R=>R x H) te σ H1 Q
theorem Kr {K:PySem.W.Frag} {js:List Nat} {tl te:TE} {σ:St} {H:Hp} {Q:VK}:gQ js (kJ K tl) te σ H Q=tl σ H (LCK K js te σ Q):=rfl
section
variable {prog:Program} {w:World} {A:Around} {E:Value->Shared->Prop} {s:Shared}
theorem _root_.PySem.Heap.ExtBut.trans' {b:Addr} {h h1 h2:Heap} (x:Heap.ExtBut b h h1) (y:∀c o,h1.get? c=some o->h2.get? c=some o):Heap.ExtBut b h h2:=fun c o n e=>y c o (x c o n e)
theorem Kv {α:Type} {Q:α->Shared->Prop} (hh:A.handled=none) (q:∀h' x,(∀c o,s.heap.get? c=some o->h'.get? c=some o)->(∃o,h'.get? x=some o/\o.cls=.type "StopIteration")->E (.ref x) { s with heap:=h' }) :
  wpAny (model prog w) A (Builtin.SmallTypes.stopIteration (α:=α)) Q E s:=by
 unfold Builtin.SmallTypes.stopIteration;refine aW ?_;simp only[newExc,newTuple];refine aW (ux ?_ (by size_fits)); refine aW (m:=firstArgMember _ _) (vU (a:=Value.none) (by rfl) ?_)
 refine ux ?_ (by size_fits); simp only[raiseNew]
 refine aW (wpAny_handled ?_); rw[hh];refine aW (cF (wpAny_throw ?_)); refine q _ _ (fun c o e=>?_) ⟨_,dw _ rfl,rfl⟩;exact dW _ (dW _ e)
theorem Wo {it t:Addr} {i:Nat} {its:Array Value} {u:Value} {Q:Value->Shared->Prop} (hi:s.heap.IsTupleIter it t i) (ht:s.heap.IsTuple t its) (hu:its[i]?=some u)
  (q:∀h',h'.IsTupleIter it t (i+1)->Heap.SameBut it s.heap h'->Q u { s with heap:=h' }):wpAny (model prog w) A (Builtin.SmallTypes.nextOf (.ref it)) Q E s:=by
 obtain⟨oi,gi,ci,di⟩:=id hi;obtain⟨ot,gt,_,nt,dt⟩:=ht;have ty:=hi.typeIs;have nn:¬((Value.ref t==Value.none)=true):=fun z=>Bool.noConfusion (show false=true from z);unfold Builtin.SmallTypes.nextOf;refine aW (Dq (name:=Str.ofString "__next__") ty F.slot_tuple_iterator_next (xJ F.slot_tuple_iterator_next ty F.entry_tuple_iterator_next ?_ (F.args_tuple_iterator_next_1 _)));show wpAny _ _ (field (.ref it) 0 >>= _) _ _ s; refine aW (iU gi di (x:=.ref t) rfl ?_);show wpAny _ _ (if(Value.ref t==Value.none)=true then _ else _) _ _ s; rw[aZ nn]
 show wpAny _ _ (field (.ref it) 1 >>= _) _ _ s; refine aW (iU gi di (x:=.int i 0) rfl ?_);show wpAny _ _ (seqItems? (.ref t) >>= _) _ _ s; refine aW (qT gt dt ?_);simp only[tu,hu];have fin:∀h',(∃o,h'.get? it=some o/\o.cls=.type "tuple_iterator" /\ o.data=.fields #[.ref t,.int ((i+1:Nat):Int) 0])->Heap.SameBut it s.heap h'->Q u { s with heap:=h' }:=fun h' z sb=>q h' z sb
 refine aW (wpAny_setField gi di (by simp) (cF ⟨u,rfl,cF (fin _ ?_ (Heap.SameBut.update ..))⟩))
 refine⟨_,Jo _ gi (Obj.isFreed_of_fields (Obj.data_mapFields di _)),(Obj.cls_mapFields ..).trans ci,?_⟩;rw[Obj.data_mapFields di];simp[rawInt]
theorem Sw {it t:Addr} {i:Nat} {its:Array Value} {Q:Value->Shared->Prop} (hh:A.handled=none) (hi:s.heap.IsTupleIter it t i) (ht:s.heap.IsTuple t its) (hu:its[i]?=none)
  (q:∀h' x,Heap.ExtBut it s.heap h'->(∃o,h'.get? x=some o/\o.cls=.type "StopIteration")->E (.ref x) { s with heap:=h' }):wpAny (model prog w) A (Builtin.SmallTypes.nextOf (.ref it)) Q E s:=by
 obtain⟨oi,gi,ci,di⟩:=id hi;obtain⟨ot,gt,_,nt,dt⟩:=ht;have ty:=hi.typeIs;have nn:¬((Value.ref t==Value.none)=true):=fun z=>Bool.noConfusion (show false=true from z);unfold Builtin.SmallTypes.nextOf;refine aW (Dq (name:=Str.ofString "__next__") ty F.slot_tuple_iterator_next (xJ F.slot_tuple_iterator_next ty F.entry_tuple_iterator_next ?_ (F.args_tuple_iterator_next_1 _)));show wpAny _ _ (field (.ref it) 0 >>= _) _ _ s; refine aW (iU gi di (x:=.ref t) rfl ?_);show wpAny _ _ (if(Value.ref t==Value.none)=true then _ else _) _ _ s; rw[aZ nn]
 show wpAny _ _ (field (.ref it) 1 >>= _) _ _ s; refine aW (iU gi di (x:=.int i 0) rfl ?_);show wpAny _ _ (seqItems? (.ref t) >>= _) _ _ s; refine aW (qT gt dt ?_);simp only[tu,hu];refine aW (qU (aW (wpAny_setField gi di (by simp) ?_)))
 exact Kv (A:=A.in1) hh fun h' x k z=>q h' x ((Heap.SameBut.update ..).extBut.trans' k) z
end
theorem Mf {prog:Program} {w:World} {A:Around} (hh:A.handled=none) {it t:Addr} (ne:t≠it) (its:Array Value):Draws prog w A it [it,t] its.size (fun i v=>its[i]?=some v) (fun i h=>h.IsTupleIter it t i/\h.IsTuple t its) where
 live:=fun i h z=>let ⟨⟨o,e,_⟩,_⟩:=z; ⟨o,e⟩
 frame:=fun i h h' z k=>⟨z.1.at fun o e=>k it iV o e,z.2.at fun o e=>k t (g8 _ iV) o e⟩
 item:=fun i s Q E hi z q=>by
  refine Wo z.1 z.2 (u:=its[i]) (Ot hi) fun h' z' sb=>?_;exact q _ h' s.toks (Ot hi) ⟨z',z.2.extBut sb.extBut ne⟩ sb
 done:=fun s Q E z q=>Sw hh z.1 z.2 (by simp) q
abbrev tiH (h:Heap) (t:Addr):Heap:=h.push { cls:=.type "tuple_iterator",data:=.fields #[.ref t,.int 0 0] }
section
variable {X:Cx}
end
structure Vg (z TI TO i1 i2:Addr) (f1 f2:List Addr):Prop where
 a1:TI≠z
 a2:TO≠z
 a3:TI≠TO
 a4:i1≠z
 a5:i2≠z
 a6:TO≠i1
 a7:TO≠i2
 a8:i1≠i2
 b1:z∉f1
 b2:z∉f2
 b3:TO∉f1
 b4:TO∉f2
 b5:i1∉f2
 b6:i2∉f1
section
variable {prog:Program} {w:World} {A:Around} {E:Value->Shared->Prop} {s:Shared}
theorem Cz {b:Addr} {h h':Heap} {f:List Addr} (sb:Heap.SameBut b h h') (hb:b∉f):∀c∈f,∀o,h.get? c=some o->h'.get? c=some o:=fun c hc o e=>sb.extBut c o (fun z=>hb (z▸hc)) e
theorem MK {z TI TO i1 i2:Addr} {f1 f2:List Addr} {n1 n2 k:Nat} {P1 P2:Nat->Value->Prop} {S1 S2:Nat->Heap->Prop} {a b:Value} {Q:Value->Shared->Prop} (Z:Vg z TI TO i1 i2 f1 f2) (D1:Draws prog w A i1 f1 n1 P1 S1) (D2:Draws prog w A i2 f2 n2 P2 S2)
  (hz:IsZip s.heap z TI TO .none) (hi:IsPair s.heap TI (.ref i1) (.ref i2)) (ho:IsPair s.heap TO a b) (s1:S1 k s.heap) (s2:S2 k s.heap) (k1:k<n1) (k2:k<n2)
  (q:∀x y h' tk,P1 k x->P2 k y->IsZip h' z TI TO (rawInt s.heap.objs.size)->IsPair h' TO x y->S1 (k+1) h'->S2 (k+1) h'->IsPair h' s.heap.objs.size x y->h'.objs.size=s.heap.objs.size+1->(∀c o,c≠z->c≠TO->c≠i1->c≠i2->s.heap.get? c=some o->h'.get? c=some o)->Q (.ref s.heap.objs.size) { s with heap:=h',toks:=tk }) :
  wpAny (model prog w) A (Builtin.«zip.__next__» ⟨[.ref z],[]⟩) (fun fin s'=>∃v,fin=.done (.ret v)/\Q v s') E s:=by
 show wpAny _ _ (field (.ref z) 2 >>= _) _ _ _; refine aW (iU hz rfl (x:=.bool false) rfl ?_);show wpAny _ _ (field (.ref z) 3 >>= _) _ _ _; refine aW (iU hz rfl (x:=.ref TI) rfl (aW (qT hi rfl ?_)));show wpAny _ _ (Builtin.SmallTypes.ownedTupleIsFree (.ref z) >>= _) _ _ _; unfold Builtin.SmallTypes.ownedTupleIsFree;refine aW (aW (iU hz rfl (x:=.none) rfl (cF ?_))); simp only[if_true];refine aW (qU (aW (iU hz rfl (x:=.ref TO) rfl (aW (GD hz (by simp) fun hA zA sA=>?_)))))
 replace zA:IsZip hA z TI TO .ellipsis:=zA
 refine aW ?_; simp only[List.zipIdx_cons,List.zipIdx_nil,Dj,Dy];refine aW (aW (wpAny_onRaise ?_)); show wpAny _ _ (Builtin.SmallTypes.nextOf (.ref i1) >>= _) _ _ _;refine aW (D1.item k _ _ _ k1 (D1.frame _ _ _ s1 (Cz sA Z.b1)) fun x hB tB pB stb sB=>cF ?_);have oB:IsPair hB TO a b:=sB.extBut _ _ Z.a6 (sA.extBut _ _ Z.a2 ho);have uB:S2 k hB:=D2.frame _ _ _ (D2.frame _ _ _ s2 (Cz sA Z.b2)) (Cz sB Z.b5);refine aW (qT oB rfl (aW (wpAny_updateSeq_pair oB fun hC oC sC=>?_)))
 replace oC:IsPair hC TO x b:=oC
 refine aW (v9 (cF (aW (aW (wpAny_onRaise ?_))))); show wpAny _ _ (Builtin.SmallTypes.nextOf (.ref i2) >>= _) _ _ _;refine aW (D2.item k _ _ _ k2 (D2.frame _ _ _ uB (Cz sC Z.b4)) fun y hD tD pD std sD=>cF ?_);have oD:IsPair hD TO x b:=sD.extBut _ _ Z.a7 oC;refine aW (qT oD rfl (aW (wpAny_updateSeq_pair oD fun hF oF sF=>?_)))
 replace oF:IsPair hF TO x y:=oF
 refine aW (v9 (cF (cF (aW (qT oF rfl (aW (wpAny_newTuple ?_)))))));have zF:IsZip hF z TI TO .ellipsis:=sF.extBut _ _ Z.a2.symm (sD.extBut _ _ Z.a5.symm (sC.extBut _ _ Z.a2.symm (sB.extBut _ _ Z.a4.symm zA)));have size:hF.objs.size=s.heap.objs.size:=by rw[sF.1,sD.1,sC.1,sB.1,sA.1]
 have lz:z<hF.objs.size:=cz zF;show wpAny _ _ (Builtin.SmallTypes.ownedTupleHandOut (.ref z) (.ref hF.objs.size) >>= _) _ _ _; unfold Builtin.SmallTypes.ownedTupleHandOut;have zG:IsZip (hF.push { cls:=.type "tuple",data:=.seq #[x,y] }) z TI TO .ellipsis:=dW _ zF;refine aW (aW (GD zG (by simp) fun hI zI sI=>?_))
 replace zI:IsZip hI z TI TO (rawInt hF.objs.size):=zI
 refine GD zI (by simp) fun hJ zJ sJ=>cF ⟨_,rfl,?_⟩
 replace zJ:IsZip hJ z TI TO (rawInt hF.objs.size):=zJ
 have up:∀c o,c≠z->hF.get? c=some o->hJ.get? c=some o:=fun c o n e=>sJ.extBut _ _ n (sI.extBut _ _ n (dW _ e));have tJ:IsPair hJ hF.objs.size x y:=sJ.extBut _ _ (Dh lz) (sI.extBut _ _ (Dh lz) (dw _ rfl));have szJ:hJ.objs.size=hF.objs.size+1:=by rw[sJ.1,sI.1,gK]
 have kB:∀c o,c≠z->c≠TO->c≠i1->c≠i2->s.heap.get? c=some o->hF.get? c=some o:=fun c o n1 n2 n3 n4 e=>sF.extBut _ _ n2 (sD.extBut _ _ n4 (sC.extBut _ _ n2 (sB.extBut _ _ n3 (sA.extBut _ _ n1 e))));have u1:S1 (k+1) hF:=D1.frame _ _ _ (D1.frame _ _ _ (D1.frame _ _ _ stb (Cz sC Z.b3)) (Cz sD Z.b6)) (Cz sF Z.b3);have u2:S2 (k+1) hF:=D2.frame _ _ _ std (Cz sF Z.b4);show Q (.ref hF.objs.size) _;rw[size] at zJ tJ szJ ⊢;exact q x y hJ tD pB pD zJ (up _ _ Z.a2 oF) (D1.frame _ _ _ u1 fun c hc o e=>up c o (fun z'=>Z.b1 (z'▸hc)) e) (D2.frame _ _ _ u2 fun c hc o e=>up c o (fun z'=>Z.b2 (z'▸hc)) e) tJ szJ fun c o n1 n2 n3 n4 e=>up c o n1 (kB c o n1 n2 n3 n4 e)
theorem Kd {z TI TO i1 i2:Addr} {f1 f2:List Addr} {n1 n2 k:Nat} {P1 P2:Nat->Value->Prop} {S1 S2:Nat->Heap->Prop} {a b:Value} {Q:Fin->Shared->Prop} (Z:Vg z TI TO i1 i2 f1 f2) (D1:Draws prog w A i1 f1 n1 P1 S1) (D2:Draws prog w A i2 f2 n2 P2 S2)
  (hz:IsZip s.heap z TI TO .none) (hi:IsPair s.heap TI (.ref i1) (.ref i2)) (ho:IsPair s.heap TO a b) (s1:S1 k s.heap) (s2:S2 k s.heap) (kk:k=n1\/(k<n1/\k=n2))
  (q:∀h' e,(∀c o,c≠z->c≠TO->c≠i1->c≠i2->s.heap.get? c=some o->h'.get? c=some o)->(∃o,h'.get? e=some o/\o.cls=.type "StopIteration")->∀tk,E (.ref e) { s with heap:=h',toks:=tk }) :
  wpAny (model prog w) A (Builtin.«zip.__next__» ⟨[.ref z],[]⟩) Q E s:=by
 show wpAny _ _ (field (.ref z) 2 >>= _) _ _ _; refine aW (iU hz rfl (x:=.bool false) rfl ?_);show wpAny _ _ (field (.ref z) 3 >>= _) _ _ _; refine aW (iU hz rfl (x:=.ref TI) rfl (aW (qT hi rfl ?_)));show wpAny _ _ (Builtin.SmallTypes.ownedTupleIsFree (.ref z) >>= _) _ _ _; unfold Builtin.SmallTypes.ownedTupleIsFree;refine aW (aW (iU hz rfl (x:=.none) rfl (cF ?_))); simp only[if_true];refine aW (qU (aW (iU hz rfl (x:=.ref TO) rfl (aW (GD hz (by simp) fun hA zA sA=>?_)))))
 replace zA:IsZip hA z TI TO .ellipsis:=zA
 refine aW ?_; simp only[List.zipIdx_cons,List.zipIdx_nil,Dj,Dy];refine aW (aW (wpAny_onRaise ?_)); show wpAny _ _ (Builtin.SmallTypes.nextOf (.ref i1) >>= _) _ _ _;rcases kk with e1 | ⟨k1,e2⟩
 ·have s1':=s1;rw[e1] at s1';refine aW (D1.done _ _ _ (D1.frame _ _ _ s1' (Cz sA Z.b1)) fun hB x sB hx=>?_);obtain⟨ox,gx,cx⟩:=hx;have zB:IsZip hB z TI TO .ellipsis:=sB _ _ Z.a4.symm zA;have nx:x≠z:=fun y=>by subst y; rw[zB] at gx; cases gx; exact absurd (show Value.type "zip" = Value.type "StopIteration" from cx) (by decide)
  refine GD zB (by simp) fun hC _ sC=>q hC x (fun c o m1 _ m3 _ e=>sC.extBut _ _ m1 (sB _ _ m3 (sA.extBut _ _ m1 e))) ⟨ox,sC.extBut _ _ nx gx,cx⟩ _
 ·refine aW (D1.item k _ _ _ k1 (D1.frame _ _ _ s1 (Cz sA Z.b1)) fun x hB tB pB stb sB=>cF ?_);have oB:IsPair hB TO a b:=sB.extBut _ _ Z.a6 (sA.extBut _ _ Z.a2 ho);have uB:S2 k hB:=D2.frame _ _ _ (D2.frame _ _ _ s2 (Cz sA Z.b2)) (Cz sB Z.b5);refine aW (qT oB rfl (aW (wpAny_updateSeq_pair oB fun hC oC sC=>?_)));refine aW (v9 (cF (aW (aW (wpAny_onRaise ?_))))); show wpAny _ _ (Builtin.SmallTypes.nextOf (.ref i2) >>= _) _ _ _;have uC:S2 n2 hC:=by rw[<- e2]; exact D2.frame _ _ _ uB (Cz sC Z.b4)
  refine aW (D2.done _ _ _ uC fun hD v sD hx=>?_);obtain⟨ox,gx,cx⟩:=hx;have zD:IsZip hD z TI TO .ellipsis:=sD _ _ Z.a5.symm (sC.extBut _ _ Z.a2.symm (sB.extBut _ _ Z.a4.symm zA));have nx:v≠z:=fun y=>by subst y; rw[zD] at gx; cases gx; exact absurd (show Value.type "zip" = Value.type "StopIteration" from cx) (by decide)
  refine GD zD (by simp) fun hF _ sF=>q hF v (fun c o m1 m2 m3 m4 e=>sF.extBut _ _ m1 (sD _ _ m4 (sC.extBut _ _ m2 (sB.extBut _ _ m3 (sA.extBut _ _ m1 e))))) ⟨ox,sF.extBut _ _ nx gx,cx⟩ _
theorem MJ {z TI TO i1 i2:Addr} {f1 f2:List Addr} {n1 n2 k:Nat} {P1 P2:Nat->Value->Prop} {S1 S2:Nat->Heap->Prop} {a b:Value} {Q:Option Value->Shared->Prop} (Z:Vg z TI TO i1 i2 f1 f2) (D1:Draws prog w A.in1 i1 f1 n1 P1 S1) (D2:Draws prog w A.in1 i2 f2 n2 P2 S2)
  (hz:IsZip s.heap z TI TO .none) (hi:IsPair s.heap TI (.ref i1) (.ref i2)) (ho:IsPair s.heap TO a b) (s1:S1 k s.heap) (s2:S2 k s.heap) (k1:k<n1) (k2:k<n2)
  (q:∀x y h' tk,P1 k x->P2 k y->IsZip h' z TI TO (rawInt s.heap.objs.size)->IsPair h' TO x y->S1 (k+1) h'->S2 (k+1) h'->IsPair h' s.heap.objs.size x y->h'.objs.size=s.heap.objs.size+1->(∀c o,c≠z->c≠TO->c≠i1->c≠i2->s.heap.get? c=some o->h'.get? c=some o)->Q (some (.ref s.heap.objs.size)) { s with heap:=h',toks:=tk }) :
  wpAny (model prog w) A (pyNext (.ref z)) Q E s:=by
 have ty:s.TypeIs (.ref z) "zip" := ⟨_,hz,rfl⟩;unfold pyNext;refine aW (wpAny_attempt (Dq (name:=Str.ofString "__next__") ty F.slot_zip_next (xJ F.slot_zip_next ty F.entry_zip_next ?_ (F.args_zip_next_1 _))));exact MK Z D1 D2 hz hi ho s1 s2 k1 k2 fun x y h' tk p1 p2 v1 v2 v3 v4 v5 v6 v7=>cF (q x y h' tk p1 p2 v1 v2 v3 v4 v5 v6 v7)
theorem Im {z TI TO i1 i2:Addr} {f1 f2:List Addr} {n1 n2 k:Nat} {P1 P2:Nat->Value->Prop} {S1 S2:Nat->Heap->Prop} {a b:Value} {Q:Option Value->Shared->Prop} (Z:Vg z TI TO i1 i2 f1 f2) (D1:Draws prog w A.in1 i1 f1 n1 P1 S1) (D2:Draws prog w A.in1 i2 f2 n2 P2 S2)
  (hz:IsZip s.heap z TI TO .none) (hi:IsPair s.heap TI (.ref i1) (.ref i2)) (ho:IsPair s.heap TO a b) (s1:S1 k s.heap) (s2:S2 k s.heap) (kk:k=n1\/(k<n1/\k=n2))
  (q:∀h' tk,(∀c o,c≠z->c≠TO->c≠i1->c≠i2->s.heap.get? c=some o->h'.get? c=some o)->Q none { s with heap:=h',toks:=tk }):wpAny (model prog w) A (pyNext (.ref z)) Q E s:=by
 have ty:s.TypeIs (.ref z) "zip" := ⟨_,hz,rfl⟩;unfold pyNext;refine aW (wpAny_attempt (Dq (name:=Str.ofString "__next__") ty F.slot_zip_next (xJ F.slot_zip_next ty F.entry_zip_next ?_ (F.args_zip_next_1 _))));refine Kd Z D1 D2 hz hi ho s1 s2 kk fun h' e k hx tk=>?_;obtain⟨o,g,c⟩:=hx;exact aW (wpAny_isInstance (T:="StopIteration") (b:=true) ⟨o,g,c⟩ isSubtype_stop (cF (q _ tk k)))
end
abbrev zA2 (h:Heap) (t1 t2:Addr):Heap:=tiH (tiH h t1) t2
abbrev zA3 (h:Heap) (t1 t2:Addr):Heap:=(zA2 h t1 t2).push { cls:=.type "tuple",data:=.seq #[.ref h.objs.size,.ref (tiH h t1).objs.size] }
abbrev zA4 (h:Heap) (t1 t2:Addr):Heap:=(zA3 h t1 t2).push { cls:=.type "tuple",data:=.seq #[.none,.none] }
abbrev Vr (h:Heap) (t1 t2:Addr):Heap:=(zA4 h t1 t2).push { cls:=.type "zip",data:=.fields #[.none,.bool false,.bool false,.ref (zA2 h t1 t2).objs.size,.ref (zA3 h t1 t2).objs.size] }
theorem SJ (t1 t2:Addr) (xs ys:Array Value):Meets (Builtin.«zip.__new__» ⟨[.type "zip",.ref t1,.ref t2],[]⟩) (fun _ R s=>s.heap.IsTuple t1 xs/\s.heap.IsTuple t2 ys/\R (.ok (.ret (.ref (zA4 s.heap t1 t2).objs.size))) { s with heap:=Vr s.heap t1 t2 }):=
 .of_wp fun prog w A R s z=>by
  obtain⟨hp,g,d,tk,os⟩:=s;obtain⟨hx,hy,z⟩:=z;have sub:=sub_zip;have hX:Heap.IsTuple (Shared.heap ⟨hp,g,d,tk,os⟩) t1 xs:=hx;have hY:Heap.IsTuple (Shared.heap ⟨tiH hp t1,g,d,tk,os⟩) t2 ys:=hy.push _
  wp_walk using Jm hX,Jm hY
  exact⟨_,rfl,z⟩
theorem Mh {prog:Program} {w:World} {A:Around} {E:Value->Shared->Prop} {s:Shared} {t1 t2:Addr} {xs ys:Array Value} {Q:Value->Shared->Prop} (hx:s.heap.IsTuple t1 xs) (hy:s.heap.IsTuple t2 ys)
  (q:∀h',IsZip h' (s.heap.objs.size+4) (s.heap.objs.size+2) (s.heap.objs.size+3) .none->IsPair h' (s.heap.objs.size+2) (.ref s.heap.objs.size) (.ref (s.heap.objs.size+1))->IsPair h' (s.heap.objs.size+3) .none .none ->
   h'.IsTupleIter s.heap.objs.size t1 0->h'.IsTupleIter (s.heap.objs.size+1) t2 0->(∀c o,s.heap.get? c=some o->h'.get? c=some o)->Q (.ref (s.heap.objs.size+4)) { s with heap:=h' }) :
  wpAny (model prog w) A (call (.type "zip") [.ref t1,.ref t2]) Q E s:=by
 have n1:(tiH s.heap t1).objs.size=s.heap.objs.size+1:=gK ..;have n2:(zA2 s.heap t1 t2).objs.size=s.heap.objs.size+2:=by rw[gK,n1]
 have n3:(zA3 s.heap t1 t2).objs.size=s.heap.objs.size+3:=by rw[gK,n2]
 have n4:(zA4 s.heap t1 t2).objs.size=s.heap.objs.size+4:=by rw[gK,n3]
 have up:∀c o,s.heap.get? c=some o->(Vr s.heap t1 t2).get? c=some o:=fun c o e=>dW _ (dW _ (dW _ (dW _ (dW _ e))));have v5:(Vr s.heap t1 t2).get? (zA4 s.heap t1 t2).objs.size=some _:=dw _ rfl;have v4:(Vr s.heap t1 t2).get? (zA3 s.heap t1 t2).objs.size=some _:=dW _ (dw _ rfl);have v3:(Vr s.heap t1 t2).get? (zA2 s.heap t1 t2).objs.size=some _:=dW _ (dW _ (dw _ rfl));have v2:(Vr s.heap t1 t2).get? (tiH s.heap t1).objs.size=some _:=dW _ (dW _ (dW _ (dw _ rfl)));have v1:(Vr s.heap t1 t2).get? s.heap.objs.size=some _:=dW _ (dW _ (dW _ (dW _ (dw _ rfl))));refine callType_new F.called_zip (by decide) (F.typeCall_zip_2 _ _) (F.newCall_zip_2 _ _) (fun x=>F.args_object_init_3 x _ _) F.entry_zip_new (SJ t1 t2 xs ys) ⟨hx,hy,?_⟩
 show _/\_;rw[n2,n3,n4] at v5;rw[n1,n2] at v3;rw[n3] at v4;rw[n1] at v2;rw[n4];exact⟨⟨_,v5,rfl⟩,q _ v5 v3 v4 ⟨_,v1,rfl,rfl⟩ ⟨_,v2,rfl,rfl⟩ up⟩
theorem Inv.lE {X:Cx} {pins:List (Addr×Obj)} {σ:St} {H:Hp} {s:Shared} {h':Heap} {t':Nat} {fp:List Addr} (I:Inv X pins σ H s) (k:∀b o,b∉fp->s.heap.get? b=some o->h'.get? b=some o) (hf:∀b∈fp,fV X pins H b) :
  Inv X pins σ H { s with heap:=h',toks:=t' }:=by
 have ni:∀b u,H b=some u->b∉fp:=fun b u q hb=>by rw[(hf b hb).1] at q; cases q
 refine I.step (g':=s.gens) (d':=s.drawn) (ch:=fp) (fun b hb=>?_) (fun b o _ _ hc q _=>k b o hc q) (fun b o _ _ hc q _=>⟨o.slots,k b o hc q⟩) (fun _ _ _ _ n=>n) (fun b o hc q=>⟨o,k b o hc q⟩) (fun _ _ q=>q) (fun _ _ _ q=>q)
  (fun b ps q=>⟨#[],by rw[q]; simp⟩) (fun m hm=>?_) (fun b u q=>?_) I.bare
 ·obtain⟨_,f1,_,f3,f4,f5⟩:=hf b hb;exact⟨f3,(hf b hb).2.1,f4,f5⟩
 ·obtain⟨o,es,ep,ho,r⟩:=hm;exact⟨o,es,ep,k _ o (fun hb=>(hf _ hb).2.1 rfl) ho,r⟩
 ·refine(I.hok b u q).stay (fun c v hc z=>k c v ?_ z) (fun _ z=>z) fun _ _ z=>z;rcases hc with z | z
  ·rw[z]; exact ni b u q
  ·exact ni c _ z
theorem Zh {X:Cx} {pins:List (Addr×Obj)} {σ:St} {H:Hp} {s:Shared} {a b:Addr} {xs:List V} (I:Inv X pins σ H s) (hq:e_ X.K H a xs) (hf:fV X pins H b):a≠b:=fun z=>by
 rcases hq with h | ⟨o,its,n,hk,_⟩
 ·rcases h with h | ⟨o,h⟩ <;> (rw[z,hf.1] at h; cases h)
 ·have e:X.base.get? a=some o:=I.ok.mod.U4 a o hk;rcases hf.2.2.2.1 with y | y
  ·exact I.ok.Hg a o e (z▸y)
  ·have l:=cz e;have m:=I.ok.My;rw[z] at l;exact absurd (mF l (j4 m y)) (sX _)
structure Knd where
 Sq:PySem.W.Frag->Hp->Addr->List V->Prop
 It:Heap->Addr->Addr->Nat->Prop
 Pl:Heap->Addr->Array Value->Prop
 obj:∀{h:Heap} {i a:Addr} {n:Nat},It h i a n->∃o,h.get? i=some o/\∀v,o.data≠.cell v
 keep:∀{h h':Heap} {i a:Addr} {n:Nat},It h i a n->(∀o,h.get? i=some o->h'.get? i=some o)->It h' i a n
 inv:∀{X:Cx} {pins:List (Addr×Obj)} {σ:St} {H:Hp} {s:Shared} {a:Addr} {xs:List V},Inv X pins σ H s->Sq X.K H a xs->∃us:List Value,Vals xs us/\Pl s.heap a us.toArray
 inj:∀{X:Cx} {pins:List (Addr×Obj)} {σ:St} {H:Hp} {s:Shared} {a:Addr} {xs ys:List V},Inv X pins σ H s->Sq X.K H a xs->Sq X.K H a ys->xs=ys
 ne:∀{X:Cx} {pins:List (Addr×Obj)} {σ:St} {H:Hp} {s:Shared} {a b:Addr} {xs:List V},Inv X pins σ H s->Sq X.K H a xs->fV X pins H b->a≠b
 dr:∀{prog:Program} {w:World} {A:Around},A.handled=none->∀{i a:Addr},a≠i->∀us:Array Value,Draws prog w A i [i,a] us.size (fun n v=>us[n]?=some v) (fun n h=>It h i a n/\Pl h a us)
def kT:Knd:=⟨fun K=>e_ K,fun h i a n=>h.IsTupleIter i a n,fun h a us=>h.IsTuple a us,fun⟨o,g,_,d⟩=>⟨o,g,fun v q=>by rw[d] at q; cases q⟩,fun g k=>g.at k,fun I h=>(I.tuple h).elim fun us p=>⟨us,p.1,p.2.1⟩,fun I h h'=>I.yH h h',fun I h f=>Zh I h f,fun hh _ _ n us=>Mf hh n us⟩
def XJ (k1 k2:Knd) (K:PySem.W.Frag) (a b:Addr):It:=
 ⟨fun i H=>∃xs ys x y,k1.Sq K H a xs/\k2.Sq K H b ys/\xs[i]?=some x/\ys[i]?=some y,fun i H v H'=>∃p x y,H p=none/\v=.ref p/\H'=upd H p (.tup [x,y])/\(∀xs,k1.Sq K H a xs->xs[i]?=some x)/\∀ys,k2.Sq K H b ys->ys[i]?=some y,
  fun i H=>∃xs ys,k1.Sq K H a xs/\k2.Sq K H b ys/\(i=xs.length\/(i<xs.length/\i=ys.length))⟩
structure ad4 (k1 k2:Knd) (z TI TO i1 i2 a b:Addr) (i:Nat) (h:Heap):Prop where
 z:IsZip h z TI TO .none
 p:IsPair h TI (.ref i1) (.ref i2)
 o:∃x y,IsPair h TO x y
 l:k1.It h i1 a i
 r:k2.It h i2 b i
abbrev aaX:=XJ kT kT
theorem yG (k1 k2:Knd) {P:Program} {w:World} {K:PySem.W.Frag} {elts:List Expr} {x1} {tp:Pos} (a b z TI TO i1 i2:Addr) (n1:TI≠z) (n2:TO≠z) (n3:TI≠TO) (n4:i1≠z) (n5:i2≠z) (n6:TO≠i1) (n7:TO≠i2) (n8:i1≠i2) (n9:TI≠i1) (n10:TI≠i2) :
  Turn P w K (.Tuple elts x1 tp) (XJ k1 k2 K a b) [z,TI,TO,i1,i2] z (ad4 k1 k2 z TI TO i1 i2 a b) where
 mem:=by simp
 obj:=fun i h st c hc=>by
  obtain⟨g1,g2,⟨x,y,g3⟩,g4,g5⟩:=st;simp only[bI,dD,or_false] at hc;rcases hc with rfl | rfl | rfl | rfl | rfl
  ·exact⟨_,g1,fun v q=>by cases q⟩
  ·exact⟨_,g2,fun v q=>by cases q⟩
  ·exact⟨_,g3,fun v q=>by cases q⟩
  ·exact k1.obj g4
  ·exact k2.obj g5
 keep:=fun i h h' st k=>by
  obtain⟨g1,g2,⟨x,y,g3⟩,g4,g5⟩:=st;exact⟨k z (by simp) _ g1,k TI (by simp) _ g2,⟨x,y,k TO (by simp) _ g3⟩,k1.keep g4 fun o e=>k i1 (by simp) o e,k2.keep g5 fun o e=>k i2 (by simp) o e⟩
 item:=by
  intro X hP hw hK hc i pins s σ H E I hf st hg;subst hP hw hK;obtain⟨g1,g2,⟨xo,yo,g3⟩,g4,g5⟩:=st;obtain⟨xs,ys,x,y,hx,hy,ex,ey⟩:=hg;obtain⟨us,ru,pu⟩:=k1.inv I hx;obtain⟨vs,rv,pv⟩:=k2.inv I hy;obtain⟨u,hu,ru'⟩:=ru.get ex;obtain⟨v,hv,rv'⟩:=rv.get ey;have ha:∀c∈[z,TI,TO,i1,i2],a≠c:=fun c hc=>k1.ne I hx (hf c hc);have hb:∀c∈[z,TI,TO,i1,i2],b≠c:=fun c hc=>k2.ne I hy (hf c hc);have hh:X.A.in1.handled=none:=I.ok.hd hc;have Z:Vg z TI TO i1 i2 [i1,a] [i2,b]:=⟨n1,n2,n3,n4,n5,n6,n7,n8,by simp; exact⟨n4.symm,(ha z (by simp)).symm⟩,by simp; exact⟨n5.symm,(hb z (by simp)).symm⟩,by simp; exact⟨n6,(ha TO (by simp)).symm⟩,by simp; exact⟨n7,(hb TO (by simp)).symm⟩,by simp; exact⟨n8,(hb i1 (by simp)).symm⟩,by simp; exact⟨n8.symm,(ha i2 (by simp)).symm⟩⟩
  refine MJ Z (k1.dr hh (ha i1 (by simp)) us.toArray) (k2.dr hh (hb i2 (by simp)) vs.toArray) g1 g2 g3 (show _/\_ from⟨g4,pu⟩) (show _/\_ from⟨g5,pv⟩) (by have:=(iT.mp hu).1; simpa using this) (by have:=(iT.mp hv).1; simpa using this)
   fun u' v' h' tk hu' hv' z1 z2 z3 z4 z5 z6 kk=>?_
  have eu:u'=u:=by
   have:us[i]?=some u':=by simpa using hu'
   rw[hu] at this; exact(Option.some.inj this).symm
  have ev:v'=v:=by
   have:vs[i]?=some v':=by simpa using hv'
   rw[hv] at this; exact(Option.some.inj this).symm
  subst eu ev;have fr:H s.heap.objs.size=none:=I.hok.fresh (bL _)
  have I1:Inv X pins σ (upd H s.heap.objs.size (.tup [x,y])) { s with heap:=s.heap.push { cls:=.type "tuple",data:=.seq #[u',v'] },toks:=tk }:=
   I.laid (t':=tk) (fun b v z=>dW _ z) (bL _) ⟨(by show 2<=sizeLine; decide),[u',v'],.cons ru' (.cons rv' .nil),⟨_,dw _ rfl,rfl,_,rfl⟩⟩
  have lt:∀c∈[z,TI,TO,i1,i2],c<s.heap.objs.size:=fun c hc=>by
   simp only[bI,dD,or_false] at hc;rcases hc with rfl | rfl | rfl | rfl | rfl
   ·exact cz g1
   ·exact cz g2
   ·exact cz g3
   ·obtain⟨o,e,_⟩:=k1.obj g4; exact cz e
   ·obtain⟨o,e,_⟩:=k2.obj g5; exact cz e
  have f1:∀c∈[z,TI,TO,i1,i2],fV X pins (upd H s.heap.objs.size (.tup [x,y])) c:=fun c hc=>⟨by rw[aN (fP (lt c hc))]; exact(hf c hc).1,(hf c hc).2⟩
  have I2:Inv X pins σ (upd H s.heap.objs.size (.tup [x,y])) { s with heap:=h',toks:=tk }:=I1.lE (t':=tk) (fun c o nc e=>by
   have m:∀d∈[z,TI,TO,i1,i2],c≠d:=fun d hd y=>nc (y▸hd);by_cases y:c=s.heap.objs.size
   ·subst y;rw[dw _ rfl] at e;cases e;exact z5
   ·rcases Heap.get?_push_cases e with w | w
    ·exact absurd w.1 y
    ·exact kk c o (m z (by simp)) (m TO (by simp)) (m i1 (by simp)) (m i2 (by simp)) w) f1
  have g2':IsPair h' TI (.ref i1) (.ref i2):=kk _ _ n1 n3 n9 n10 g2;refine⟨_,rfl,wpAny_letOwnedTupleGo_zip z1 fun h2 zz sb=>⟨.ref s.heap.objs.size,_,I2.lE (fp:=[z,TI,TO,i1,i2]) (t':=tk) (fun c o nc e=>sb.extBut c o (fun y=>nc (by simp[y])) e) f1,rfl,⟨_,x,y,fr,rfl,rfl,fun xs' h=>by rw[k1.inj I h hx]; exact ex,fun ys' h=>by rw[k2.inj I h hy]; exact ey⟩,⟨zz,sb.extBut _ _ n1 g2',⟨_,_,sb.extBut _ _ n2 z2⟩,?_,?_⟩,fun c hc=>(f1 c hc).1⟩⟩
  ·exact k1.keep z3.1 fun o e=>sb.extBut i1 o n4 e
  ·exact k2.keep z4.1 fun o e=>sb.extBut i2 o n5 e
 done:=by
  intro X hP hw hK hc i pins s σ H E I hf st hg;subst hP hw hK;obtain⟨g1,g2,⟨xo,yo,g3⟩,g4,g5⟩:=st;obtain⟨xs,ys,hx,hy,hl⟩:=hg;obtain⟨us,ru,pu⟩:=k1.inv I hx;obtain⟨vs,rv,pv⟩:=k2.inv I hy;have ha:∀c∈[z,TI,TO,i1,i2],a≠c:=fun c hc=>k1.ne I hx (hf c hc);have hb:∀c∈[z,TI,TO,i1,i2],b≠c:=fun c hc=>k2.ne I hy (hf c hc);have hh:X.A.in1.handled=none:=I.ok.hd hc;have Z:Vg z TI TO i1 i2 [i1,a] [i2,b]:=⟨n1,n2,n3,n4,n5,n6,n7,n8,by simp; exact⟨n4.symm,(ha z (by simp)).symm⟩,by simp; exact⟨n5.symm,(hb z (by simp)).symm⟩,by simp; exact⟨n6,(ha TO (by simp)).symm⟩,by simp; exact⟨n7,(hb TO (by simp)).symm⟩,by simp; exact⟨n8,(hb i1 (by simp)).symm⟩,by simp; exact⟨n8.symm,(ha i2 (by simp)).symm⟩⟩
  have l1:=ru.length;have l2:=rv.length;refine Im Z (k1.dr hh (ha i1 (by simp)) us.toArray) (k2.dr hh (hb i2 (by simp)) vs.toArray) g1 g2 g3 (show _/\_ from⟨g4,pu⟩) (show _/\_ from⟨g5,pv⟩) (by simp; omega) fun h' tk kk=>⟨rfl,I.lE (fp:=[z,TI,TO,i1,i2]) (t':=tk) (fun c o nc e=>?_) hf⟩
  have m:∀d∈[z,TI,TO,i1,i2],c≠d:=fun d hd y=>nc (y▸hd);exact kk c o (m z (by simp)) (m TO (by simp)) (m i1 (by simp)) (m i2 (by simp)) e
 self:=fun _ _ _ _ _ st h=>Ji st.z h
section
variable {X:Cx}
def Ep (K:PySem.W.Frag) (ta:TA):TI:=fun σ H R=>ta σ H fun vs H1=>∃a b,vs=[.ref a,.ref b]/\(∃xs,e_ K H1 a xs)/\(∃ys,e_ K H1 b ys)/\R (aaX K a b) H1
theorem Jt {K:PySem.W.Frag} {e e':Expr} {elts:List Expr} {x1} {tp p pos:Pos} {ta:TA} (hK:X.K=K) (hm:X.mg "zip" = none) (ha:PA X [e,e'] ta) (hg:Gl X "zip" := by rfl) (h1:b8 e=true:=by rfl) (h2:b8 e'=true:=by rfl) :
  PI X (.Tuple elts x1 tp) (.Call (.Name "zip" p) [e,e'] [] pos) (Ep K ta):=by
 subst hK;refine .mk ?_;intro pins s σ H R I h;refine uy (iJ I hg hm H_ ?_ (by decide) (by decide))
 refine PyProof.Rows.callWith_type1 (cI (ha pos pins s σ H _ I h) fun us s1 ⟨vs,H1,I1,r1,q1⟩=>?_) (cB h1) (cM (es:=[e']) (by simp[h2]))
 obtain⟨a,b,rfl,⟨xs,hx⟩,⟨ys,hy⟩,q⟩:=q1;obtain⟨u,v,rfl,ru,rv⟩:=r1.two;cases ru;cases rv;obtain⟨us,_,pu,_⟩:=I1.tuple hx;obtain⟨ws,_,pw,_⟩:=I1.tuple hy;refine Mh (show s1.heap.IsTuple a us.toArray from pu) (show s1.heap.IsTuple b ws.toArray from pw) fun h' hz hp ho h1 h2 kk=>?_;have I2:Inv X pins σ H1 { s1 with heap:=h' }:=I1.kept (t':=s1.toks) kk
 have fr:∀n,H1 (s1.heap.objs.size+n)=none:=fun n=>I1.hok.fresh (KD _ _);have fk:∀n,fV X pins H1 (s1.heap.objs.size+n):=fun n=>I1.tR (KD _ _) (fr n);have ne:∀i j:Nat,i≠j->s1.heap.objs.size+i≠s1.heap.objs.size+j:=fun i j n e=>n (Nat.add_left_cancel e);refine Ji hz ⟨s1.heap.objs.size+4,_,_,aaX X.K a b,H1,rfl,I2,yG kT kT a b (s1.heap.objs.size+4) (s1.heap.objs.size+2) (s1.heap.objs.size+3) s1.heap.objs.size (s1.heap.objs.size+1) (ne _ _ (by decide)) (ne _ _ (by decide)) (ne _ _ (by decide)) (ne 0 _ (by decide)) (ne _ _ (by decide)) (ne _ 0 (by decide)) (ne _ _ (by decide)) (ne 0 _ (by decide)) (ne _ 0 (by decide)) (ne _ _ (by decide)),⟨hz,hp,⟨_,_,ho⟩,h1,h2⟩,fun c hc=>?_,q⟩
 simp only[bI,dD,or_false] at hc;rcases hc with rfl | rfl | rfl | rfl | rfl
 ·exact fk 4
 ·exact fk 2
 ·exact fk 3
 ·exact fk 0
 ·exact fk 1
end
abbrev two (elt t1 i1 t2 i2:Expr) (sc:Scope) (pos:Pos):Expr:=.ListComp elt [⟨t1,i1,[],0⟩,⟨t2,i2,[],0⟩] sc pos
section
variable {prog:Program} {w:World} {A:Around} {R:Result->Shared->Prop} {s:Shared} {elt t1 i1 t2 i2:Expr} {sc:Scope} {pos:Pos} {it acc:Value} {env:Env}
end
theorem bU {X:Cx} {K:PySem.W.Frag} {pos:Pos} {es:List Expr} {k:Nat} {t:QD} {n:Nat} (hK:X.K=K) (hc:X.calm=true) (h:XF X es t)
  (hn:(assignEach es X.env).length=n:=by rfl) (hst:(assignEach es X.env).findIdx? (·.1)=none:=by rfl):PG X (.Tuple es k pos) (LQ K n t):=by
 subst hK;exact Wd hc h hn hst
theorem Ao {X:Cx} {K:PySem.W.Frag} {tg l:Expr} {tl:TE} (hK:X.K=K) (hl:PE X l tl):PI X tg l (Lw K tl):=by
 subst hK;exact Wa hl
theorem bH {X:Cx} {K:PySem.W.Frag} {tg l:Expr} {tl:TE} (hK:X.K=K) (hl:PE X l tl):PI X tg l (kJ K tl):=by
 subst hK;exact RZ hl
theorem xj {K:PySem.W.Frag} {js:List Nat} {J:It} {te:TE} {σ:St} {H:Hp} {Q:VK} {acc:Addr} {es:List PyData} (xv yv:Nat->V) (hz:es.length<=sizeLine) (hL:bK es=true) (hacc:H acc=none)
  (go:∀i H',i<es.length->aP H H'->J.go i H') (yl:∀i H' v dC,i<es.length->aP H H'->J.CN i H' v dC->∃p,H' p=none/\v=.ref p/\dC=upd H' p (.tup [xv i,yv i])) (st:∀H',aP H H'->J.stop es.length H')
  (val:∀(i:Nat) e H',es[i]?=some e->aP H H'->∀R:VK,(∀v dC,aP H' dC->At dC e v->R v dC)->te (some (xv i)::some (yv i)::b7 js σ) H' R)
  (fin:∀ys H',aP H H'->H' acc=some (.lst ys)->aj (hid acc H') es ys->Q (.ref acc) H') :
  ∃W:Nat->Nat->List V->Hp->Prop,(∃m,W 0 m [] (upd H acc (.lst [])))/\∀i m ys H2,W i m ys H2 ->
   (J.stop i H2/\Q (.ref acc) H2)\/(J.go i H2/\∀x H3,J.CN i H2 x H3->LQ K 2 (jN (fK 0) (jN (fK 1) Bw)) x (List.replicate 2 none++b7 js σ) H3 fun σ' H'=>(σ'.drop 2=b7 js σ/\σ'.length=(List.replicate 2 (none:Option V)++b7 js σ).length)/\rZ σ' H' fun b dC=>
    if b=true then te σ' dC fun y H4=>H4 acc=some (.lst ys)/\ys.length<sizeLine/\∃m',m'<m/\W (i+1) m' (ys++[y]) (upd H4 acc (.lst (ys++[y]))) else ∃m',m'<m/\W (i+1) m' ys dC):=by
 refine⟨fun i m ys H2=>m=es.length-i/\i<=es.length/\aj (hid acc H2) (es.take i) ys/\aP H H2/\H2 acc=some (.lst ys),⟨_,rfl,gw _,aj.nil,aQ hacc _,aC⟩,?_⟩;rintro i m ys H2 ⟨rfl,hi,hA,sm,hy⟩;by_cases hlt:i<es.length
 ·refine .inr ⟨go i H2 hlt sm,fun x H3 y=>?_⟩;obtain⟨p,fp,rfl,rfl⟩:=yl i H2 x H3 hlt sm y;refine⟨p,_,rfl,e_.of aC,rfl,(show(_=_/\_=_)/\rZ _ _ _ from⟨⟨rfl,by simp⟩,?_⟩)⟩
  unfold rZ;simp only[if_true];have e1:es[i]?=some es[i]:=dN hlt;have s3:aP H2 (upd H2 p (.tup [xv i,yv i])):=aQ fp _;refine val i _ _ e1 (sm.trans s3) _ fun v H4 s4 a4=>⟨s4 _ _ (s3 _ _ hy),?_,es.length-(i+1),by omega,rfl,hlt,?_,?_,aC⟩
  ·rw[hA.length,mD]; omega
  ·rw[rm,List.take_succ,e1];exact aj.append (hA.mono (aP.hid (s3.trans s4))) (aj.cons (At.Hu (s4 _ _ (s3 _ _ hy)) _ _ (Hh hL e1) a4) aj.nil)
  ·refine fun b o q=>?_;have nb:b≠acc:=cG q hacc;rw[aN nb];exact s4 _ _ (s3 _ _ (sm _ _ q))
 ·have e:i=es.length:=by omega
  subst e;rw[pY] at hA;exact .inl ⟨st _ sm,fin _ _ sm hy hA⟩
theorem zN {K:PySem.W.Frag} {js:List Nat} {a b:Addr} {xs ys:List V} {es:List PyData} {ta:TA} {te:TE} {σ:St} {H:Hp} {Q:VK} (hl:∀R:List V->Hp->Prop,R [.ref a,.ref b] H->ta σ H R) (ha:H a=some (.tup xs)) (hb:H b=some (.tup ys)) (n1:xs.length=es.length) (n2:ys.length=es.length) (hz:es.length<=sizeLine) (hL:bK es=true)
  (val:∀(i:Nat) x y e H',xs[i]?=some x->ys[i]?=some y->es[i]?=some e->aP H H'->∀R:VK,(∀v dC,aP H' dC->At dC e v->R v dC)->te (some x::some y::b7 js σ) H' R)
  (fin:∀acc zs H',aP H H'->H acc=none->H' acc=some (.lst zs)->aj (hid acc H') es zs->Q (.ref acc) H'):eV 2 js (Ep K ta) (LQ K 2 (jN (fK 0) (jN (fK 1) Bw))) rZ te σ H Q:=by
 refine hl _ ⟨a,b,rfl,⟨xs,e_.of ha⟩,⟨ys,e_.of hb⟩,fun acc hacc=>?_⟩;have gx:∀i,i<es.length->xs[i]?=some (xs.getD i .non):=fun i hi=>by rw[lC,dN (by omega)]; rfl
 have gy:∀i,i<es.length->ys[i]?=some (ys.getD i .non):=fun i hi=>by rw[lC,dN (by omega)]; rfl
 refine xj (es:=es) (fun i=>xs.getD i .non) (fun i=>ys.getD i .non) hz hL hacc (fun i H' hi s=>⟨xs,ys,_,_,e_.of (s _ _ ha),e_.of (s _ _ hb),gx i hi,gy i hi⟩) (fun i H' v dC hi s y=>?_) (fun H' s=>⟨xs,ys,e_.of (s _ _ ha),e_.of (s _ _ hb),.inl n1.symm⟩) (fun i e H' he s R hR=>?_) fun zs H' s h1 h2=>fin acc zs H' s hacc h1 h2
 ·obtain⟨p,x,y,fp,e1,e2,h1,h2⟩:=y;have q1:=h1 xs (e_.of (s _ _ ha));have q2:=h2 ys (e_.of (s _ _ hb));rw[gx i hi] at q1;rw[gy i hi] at q2;cases q1;cases q2;exact⟨p,fp,e1,e2⟩
 ·have hi:i<es.length:=by
   by_cases z:i<es.length
   ·exact z
   ·rw[List.getElem?_eq_none (by omega)] at he; cases he
  exact val i _ _ e H' (gx i hi) (gy i hi) he s R hR
section
variable {X:Cx} {pins:List (Addr×Obj)} {σ:St} {H:Hp} {s:Shared} {A:Around} {E:Value->Shared->Prop} {Q:Value->Shared->Prop} {b:Bool}
theorem Hr {x:V} {u t:Value} {tp:Addr} {its:List Value} (I:Inv X pins σ H s) (rx:RelV x u) (ty:rO X.K H x t) (htp:IsTup s.heap tp its.toArray) (e:PySem.W.kitAny X.K t its=some b) (h:∀tk,Q (.bool b) { s with toks:=tk }) :
  wpAny (model X.prog X.w) A (call (.builtin "isinstance") [u,.ref tp]) Q E s:=by
 obtain⟨o,ho,hc,n,hd⟩:=htp;obtain⟨cls,dd,data,sl⟩:=o;cases hc;cases hd;cases ty with
 | non=>cases(show u=Value.none from rx); exact PySem.W.kia_tup PySem.W.kitx_none I.mH True.intro ho e (fun z=>nomatch z) h
 | bl y=>cases(show u=Value.bool y from rx); exact PySem.W.kia_tup PySem.W.kitx_bool I.mH True.intro ho e (fun z=>nomatch z) h
 | int i=>obtain⟨t,q⟩:=(show ∃t,u=Value.int i t from rx); cases q; exact PySem.W.kia_tup PySem.W.kitx_int I.mH True.intro ho e (fun z=>nomatch z) h
 | str y=>obtain⟨t,q⟩:=(show ∃t,u=Value.str y t from rx); cases q; exact PySem.W.kia_tup PySem.W.kitx_str I.mH True.intro ho e (fun z=>nomatch z) h
 | flt y=>obtain⟨t,q⟩:=(show ∃t,u=Value.float y t from rx); cases q; exact PySem.W.kia_tup PySem.W.kitx_float I.mH True.intro ho e (fun z=>nomatch z) h
 | @lst a xs ea=>
  cases(show u=Value.ref a from rx);obtain⟨_,_,n,_,h1⟩:=(show cC X.prog X.w H s.heap a (.lst xs) from I.hok a _ ea);exact PySem.W.kia_tup PySem.W.kitx_list I.mH ⟨_,h1,rfl⟩ ho e (fun z=>nomatch z) h
 | @rR a ob xs ea=>
  cases(show u=Value.ref a from rx);obtain⟨_,_,_,n,_,h1⟩:=(show cC X.prog X.w H s.heap a (.rR ob (.lst xs)) from I.hok a _ ea);exact PySem.W.kia_tup PySem.W.kitx_list I.mH ⟨_,h1,rfl⟩ ho e (fun z=>nomatch z) h
 | @tup a xs ea=>
  cases(show u=Value.ref a from rx);obtain⟨_,_,_,p⟩:=(show cC X.prog X.w H s.heap a (.tup xs) from I.hok a _ ea);obtain⟨o,h1,h2,_⟩:=p;exact PySem.W.kia_tup PySem.W.kitx_tuple I.mH ⟨o,h1,h2⟩ ho e (fun z=>nomatch z) h
 | @dK a kvs ea=>
  cases(show u=Value.ref a from rx);obtain⟨_,_,vs,_,p⟩:=(show cC X.prog X.w H s.heap a (.dK kvs) from I.hok a _ ea);obtain⟨o,es,ep,h1,h2,_⟩:=p;exact PySem.W.kia_tup PySem.W.kitx_dict I.mH ⟨o,h1,h2.1⟩ ho e (fun z=>nomatch z) h
 | @dT a kvs ea=>
  cases(show u=Value.ref a from rx);obtain⟨_,_,xs,_,o,es,ep,h1,h2,_⟩:=(show cC X.prog X.w H s.heap a (.dT kvs) from I.hok a _ ea);exact PySem.W.kia_tup PySem.W.kitx_dict I.mH ⟨o,h1,h2.1⟩ ho e (fun z=>nomatch z) h
 | @ins a C dx fs ea cl ha hn htk hm=>
  cases(show u=Value.ref a from rx);obtain⟨mA,O,_⟩:=q_ I.hok ea;obtain⟨od,J,_⟩:=O.look;exact PySem.W.kia_tup (PySem.W.kitx_own (cl.get _) cl.hd ha hn htk hm) I.mH J ho e (fun z=>nomatch z) h
end
section
variable {X:Cx}
theorem WM (K:PySem.W.Frag) (d:PyData):PySem.W.kitAny K (.type (QL d)) [.type "list",.type "tuple"]=some (zf d || isTup d):=by
 show(match PySem.W.kitOne K (.type (QL d)) (.type "list") with | some true=>some true | some false=>(match PySem.W.kitOne K (.type (QL d)) (.type "tuple") with | some true=>some true | some false=>some false | none=>none) | none=>none)=_
 rw[JG,JF];cases zf d <;> cases isTup d <;> rfl
theorem WX:cZ X (.builtin "isinstance") (fun vs H Q=>∃(v:V) (d:PyData) (p:Addr),vs=[v,.ref p]/\At H d v/\H p=some (.tup [.ty "list",.ty "tuple"])/\Q (.bl (zf d || isTup d)) H):=by
 refine .mk ?_;intro pins s σ H vs us Q I r h;obtain⟨v,d,p,rfl,hv,hp,q⟩:=h;obtain⟨u,t,rfl,ru,rt⟩:=r.two;cases(show t=Value.ref p from rt);obtain⟨_,its,ri,ht⟩:=(show cC X.prog X.w H s.heap p (.tup [.ty "list",.ty "tuple"]) from I.hok p _ hp)
 have e:its=[Value.type "list",Value.type "tuple"]:=by
  obtain⟨a,b,rfl,ra,rb⟩:=ri.two;cases(show a=Value.type "list" from ra);cases(show b=Value.type "tuple" from rb);rfl
 subst e;exact Hr I ru (hv.ty (K:=X.K)) ht (WM X.K d) fun tk=>⟨.bl (zf d || isTup d),H,I.tok tk,rfl,q⟩
end
section
variable {X:Cx}
def tNo:TS:=fun _ _ _=>False
theorem wg {st:Stmt}:PS X st tNo:=.mk <| fun _ _ _ _ _ _ h=>h.elim
end
def adg:V->Option Str
 | .int i=>if i.natAbs.log2<1920 then some (Str.ofString (toString i)) else none
 | .str z=>some z
 | _=>none
def tFv (te:TE):TE:=fun σ H Q=>te σ H fun x H1=>∃z,adg x=some z/\z.length<=sizeLine/\Q (.str z) H1
abbrev TJ:=Str->St->Hp->(Str->Hp->Prop)->Prop
section
variable {X:Cx}
structure PJ (X:Cx) (es:List Expr) (t:TJ):Prop where
 mk ::
 go:∀(acc:Str) (pins:List (Addr×Obj)) (s:Shared) (σ:St) (H:Hp) (R:Str->Hp->Prop),Inv X pins σ H s->t acc σ H R ->
  Joins (model X.prog X.w) X.A X.xe (evalEach es X.env) acc (fun out s'=>∃H',Inv X pins σ H' s'/\R out H') s
def tJ0:TJ:=fun acc _ H R=>R acc H
def tJ1 (te:TE) (t:TJ):TJ:=fun acc σ H R=>te σ H fun x H1=>∃y,x=.str y/\(acc++y).length<=sizeLine/\t (acc++y) σ H1 R
def tJs (t:TJ):TE:=fun σ H Q=>t Str.empty σ H fun out H'=>out.length<=sizeLine/\Q (.str out) H'
def acx:V->Option Int->Option Int->Hp->VK->Prop:=fun x lo hi H Q=>∃z,x=.str z/\z.length<=sizeLine/\Q (.str (Txt.slice z lo hi)) H
theorem N7:Xz X acx:=by
 refine .mk ?_;intro pins s σ H x v vl vu lo hi sl Q I rx hs pl pu h;obtain⟨z,rfl,hz,q⟩:=h;obtain⟨t,rfl⟩:=rx;have key:∀t' k,EP X pins σ Q (.str (Txt.slice z lo hi) t') { s with toks:=k }:=fun t' k=>⟨.str _,H,I.tok _,⟨t',rfl⟩,q⟩
 refine⟨"str",_,PySem.F.slot_str_getitem.lookup,typeIs_str _ _ _,?_⟩;cases pl with
 | none=>
  cases pu with
  | none=>exact Jr (l:=none) (u:=none) (st:=none) hs rfl (post_val_or_str ⟨j4 (Txt.slice_le z _ _) hz,key⟩)
  | int j uj=>exact Jr (l:=none) (u:=some (j,uj)) (st:=none) hs rfl (post_val_or_str ⟨j4 (Txt.slice_le z _ _) hz,key⟩)
 | int i ui=>
  cases pu with
  | none=>exact Jr (l:=some (i,ui)) (u:=none) (st:=none) hs rfl (post_val_or_str ⟨j4 (Txt.slice_le z _ _) hz,key⟩)
  | int j uj=>exact Jr (l:=some (i,ui)) (u:=some (j,uj)) (st:=none) hs rfl (post_val_or_str ⟨j4 (Txt.slice_le z _ _) hz,key⟩)
theorem vh:∀{zs:List Str} {us:List Value},Vals (zs.map V.str) us->StrsAre us zs
 | [],_,.nil=>.nil
 | z::zs,_,.cons ⟨t,e⟩ r=>by subst e; exact .cons z t (vh r)
theorem Rg (sep:Str) (zs:List Str):Txt.join sep zs=Str.join sep zs:=by
 match zs with
 | []=>exact(StrLaws.glued_eq_join sep [])
 | [x]=>rfl
 | x::y::r=>exact StrLaws.glued_eq_join sep (x::y::r)
def rJoin:V->List V->Hp->VK->Prop:=fun x xs H Q=>∃(sep:Str) (p:Addr) (zs:List Str),x=.str sep/\xs=[.ref p]/\H p=some (.lst (zs.map V.str))/\(zs.map (·.length)).sum+zs.length*sep.length<=16777216/\Q (.str (Str.join sep zs)) H
theorem Jy:MtR X "str.join" rJoin:=by
 intro pins s σ H x xs v us Q I rx rs h;obtain⟨sep,p,zs,rfl,rfl,hp,hz,q⟩:=h;obtain⟨t,rfl⟩:=rx;obtain⟨u,rfl,ru⟩:=rs.one;cases ru;obtain⟨_,its,n,rv,e1⟩:=(show cC X.prog X.w H s.heap p (.lst (zs.map V.str)) from I.hok p _ hp);refine join_list (D:=p) (items:=its.toArray) ⟨_,e1,rfl,n,rfl⟩ (by simpa using vh rv) hz fun t' k=>⟨.str _,H,I.tok _,⟨t',rfl⟩,?_⟩
 rw[Rg];exact q
def Its (z:Str):It:=⟨fun i _=>i<z.length,fun i H x H'=>H'=H/\∃c,z.cps[i]?=some c/\x=.str ⟨#[c]⟩,fun i _=>z.length<=i⟩
theorem Nf {P:Program} {w:World} {K:PySem.W.Frag} {tg:Expr} (z:Str) (t:Tok) (it:Addr):Turn P w K tg (Its z) [it] it (fun i h=>h.IsStrIter it "str_ascii_iterator" z t i) where
 mem:=by simp
 obj:=fun i h st b hb=>by
  have e:b=it:=by simpa using hb
  subst e;obtain⟨o,e,c,d⟩:=st;exact⟨o,e,fun v z=>by rw[d] at z; cases z⟩
 keep:=fun i h h' st k=>by
  obtain⟨o,e,c,d⟩:=st;exact⟨o,k it (by simp) o e,c,d⟩
 item:=by
  intro X hP hw hK hc i pins s σ H E I hf st hg;subst hP hw hK;have hx:z.cps[i]?=some (z.cps[i]'hg):=Ot hg;obtain⟨f0,f1,f2,f3,f4,f5⟩:=hf it (by simp)
  refine wpAny_pyNext_ascii_item st hx fun h' st' sb=>?_;have I1:Inv X pins σ H { s with heap:=h',toks:=s.toks+1 }:=I.turned (fun b o hb e=>(sb.2 b hb).trans e) f0 f1 f3 f4 f5
  obtain⟨o,e,c,d⟩:=id st';exact⟨_,rfl,zp (s:={ s with heap:=h',toks:=s.toks+1 }) e c d (by decide) ⟨.str _,H,I1,⟨_,rfl⟩,⟨rfl,_,hx,rfl⟩,st',fun b hb=>(hf b hb).1⟩⟩
 done:=by
  intro X hP hw hK hc i pins s σ H E I hf st hg;subst hP hw hK;obtain⟨f0,f1,f2,f3,f4,f5⟩:=hf it (by simp)
  exact wpAny_pyNext_ascii_end (I.ok.hd hc) st (Array.getElem?_eq_none hg) fun h' eb=>⟨rfl,I.turned (t':=s.toks) (fun b o hb e=>eb b o hb e) f0 f1 f3 f4 f5⟩
 self:=fun _ _ _ _ _ st h=>wpAny_pyIter_striter_ascii st h
def aah (tl:TE):TI:=fun σ H R=>tl σ H fun x H1=>∃z,x=.str z/\z.cps.all (· < 128)=true/\R (Its z) H1
theorem Wb {tg l:Expr} {tl:TE} (hl:PE X l tl):PI X tg l (aah tl):=by
 refine .mk ?_;intro pins s σ H R I h;refine cI (hl pins s σ H _ I h) fun v s1 qx=>?_;obtain⟨x,H1,I1,r1,q1⟩:=qx;obtain⟨z,e,ha,q⟩:=q1;subst e;obtain⟨t,rfl⟩:=r1;refine wpAny_pyIter_ascii ha ?_;refine⟨s1.heap.objs.size,[s1.heap.objs.size],_,_,H1,rfl,I1.kept (t':=s1.toks) fun b o e=>dW _ e,Nf z t _,⟨_,dw _ rfl,rfl,rfl⟩,fun b hb=>?_,q⟩;have e:b=s1.heap.objs.size:=by simpa using hb
 subst e;exact I1.tR (bL _) (I1.hok.fresh (bL _))
def ab8 (K:PySem.W.Frag) (ta:TE):TT:=fun σ H Q=>ta σ H fun x H'=>∃k,ad8 K x H' k/\Q k H'
end
def tx (l:List Nat):Str:=⟨l.toArray⟩
theorem uX (l:List Nat):(tx l).cps.toList=l:=by simp[tx]
theorem fL (l:List Nat):(tx l).length=l.length:=by show l.toArray.size=_; simp
theorem YZ {z:Str} {l:List Nat} (h:z.cps.toList=l):z=tx l:=by subst h; cases z; simp[tx]
theorem uY (a b:List Nat):tx a++tx b=tx (a++b):=YZ (by rw[PySem.W.KT.app_list,uX,uX])
theorem Vu {a b:List Nat} (h:tx a=tx b):a=b:=by have:=nq (fun z:Str=>z.cps.toList) h; simpa[uX] using this
theorem Vt (c:Nat):(⟨#[c]⟩:Str)=tx [c]:=rfl
def jn (sep:List Nat):List (List Nat)->List Nat
 | []=>[]
 | [x]=>x
 | x::y::r=>x++sep++jn sep (y::r)
theorem JH (sep:List Nat):∀ls:List (List Nat),Str.join (tx sep) (ls.map tx)=tx (jn sep ls)
 | []=>rfl
 | [x]=>rfl
 | x::y::r=>by
  show tx x++tx sep++Str.join (tx sep) ((y::r).map tx)=_;rw[JH sep (y::r),uY,uY];rfl
theorem Xp {js:List Nat} {l:List Nat} {f:Nat->Bool} {tl te:TE} {σ:St} {H:Hp} {Q:VK} (hl:∀R:VK,R (.str (tx l)) H->tl σ H R) (ha:∀c∈l,c<128) (hz:l.length<=sizeLine)
  (step:∀c H',aP H H'->∀R:VK,(∀dC,aP H' dC->R (.bl (f c)) dC)->te (some (.str (tx [c]))::b7 js σ) H' R)
  (fin:∀acc H',aP H H'->H' acc=some (.lst ((l.map f).map V.bl))->Q (.ref acc) H'):gQ js (aah tl) te σ H Q:=by
 refine hl _ ⟨tx l,rfl,?_,fun acc hacc=>?_⟩
 ·show l.toArray.all (· < 128)=true;simpa using ha
 have len:(tx l).length=l.length:=fL l;refine⟨fun i m ys H2=>m=l.length-i/\i<=l.length/\ys=((l.take i).map f).map V.bl/\aP H H2/\H2 acc=some (.lst ys),⟨_,rfl,gw _,rfl,aQ hacc _,aC⟩,?_⟩;rintro i m ys H2 ⟨rfl,hi,rfl,sm,hy⟩;by_cases hlt:i<l.length
 ·refine .inr ⟨show i<(tx l).length by omega,fun x H3 y=>?_⟩
  obtain⟨e,c,hc,ex⟩:=y;subst e ex;have hc':l[i]?=some c:=by simpa[tx] using hc
  refine step c _ sm _ fun H4 s4=>⟨s4 _ _ hy,?_,l.length-(i+1),by omega,rfl,hlt,?_,?_,aC⟩
  ·rw[bZ,bZ,mD]; omega
  ·rw[List.take_succ,hc']; simp
  ·refine fun b o q=>?_;have nb:b≠acc:=cG q hacc;rw[aN nb];exact s4 _ _ (sm _ _ q)
 ·have e:i=l.length:=by omega
  subst e;refine .inl ⟨show(tx l).length<=l.length by omega,fin _ _ sm ?_⟩
  rw[hy,pY]
abbrev X8 (h:Heap) (t:Addr):Heap:=h.push { cls:=.type "list_iterator",data:=.fields #[.ref t,.int 0 0] }
abbrev zB2 (h:Heap) (t1 t2:Addr):Heap:=X8 (X8 h t1) t2
abbrev zB3 (h:Heap) (t1 t2:Addr):Heap:=(zB2 h t1 t2).push { cls:=.type "tuple",data:=.seq #[.ref h.objs.size,.ref (X8 h t1).objs.size] }
abbrev zB4 (h:Heap) (t1 t2:Addr):Heap:=(zB3 h t1 t2).push { cls:=.type "tuple",data:=.seq #[.none,.none] }
abbrev Vq (h:Heap) (t1 t2:Addr):Heap:=(zB4 h t1 t2).push { cls:=.type "zip",data:=.fields #[.none,.bool false,.bool false,.ref (zB2 h t1 t2).objs.size,.ref (zB3 h t1 t2).objs.size] }
theorem SM (t1 t2:Addr) (xs ys:Array Value):Meets (Builtin.«zip.__new__» ⟨[.type "zip",.ref t1,.ref t2],[]⟩) (fun _ R s=>s.heap.IsList t1 xs/\s.heap.IsList t2 ys/\R (.ok (.ret (.ref (zB4 s.heap t1 t2).objs.size))) { s with heap:=Vq s.heap t1 t2 }):=
 .of_wp fun prog w A R s z=>by
  obtain⟨hp,g,d,tk,os⟩:=s;obtain⟨hx,hy,z⟩:=z;have sub:=sub_zip;have hX:Heap.IsList (Shared.heap ⟨hp,g,d,tk,os⟩) t1 xs:=hx;have hY:Heap.IsList (Shared.heap ⟨X8 hp t1,g,d,tk,os⟩) t2 ys:=hy.push _
  wp_walk using Gz hX,Gz hY
  exact⟨_,rfl,z⟩
theorem zO {prog:Program} {w:World} {A:Around} {E:Value->Shared->Prop} {s:Shared} {t1 t2:Addr} {xs ys:Array Value} {Q:Value->Shared->Prop} (hx:s.heap.IsList t1 xs) (hy:s.heap.IsList t2 ys)
  (q:∀h',IsZip h' (s.heap.objs.size+4) (s.heap.objs.size+2) (s.heap.objs.size+3) .none->IsPair h' (s.heap.objs.size+2) (.ref s.heap.objs.size) (.ref (s.heap.objs.size+1))->IsPair h' (s.heap.objs.size+3) .none .none ->
   h'.IsListIter s.heap.objs.size t1 0->h'.IsListIter (s.heap.objs.size+1) t2 0->(∀c o,s.heap.get? c=some o->h'.get? c=some o)->Q (.ref (s.heap.objs.size+4)) { s with heap:=h' }) :
  wpAny (model prog w) A (call (.type "zip") [.ref t1,.ref t2]) Q E s:=by
 have n1:(X8 s.heap t1).objs.size=s.heap.objs.size+1:=gK ..;have n2:(zB2 s.heap t1 t2).objs.size=s.heap.objs.size+2:=by rw[gK,n1]
 have n3:(zB3 s.heap t1 t2).objs.size=s.heap.objs.size+3:=by rw[gK,n2]
 have n4:(zB4 s.heap t1 t2).objs.size=s.heap.objs.size+4:=by rw[gK,n3]
 have up:∀c o,s.heap.get? c=some o->(Vq s.heap t1 t2).get? c=some o:=fun c o e=>dW _ (dW _ (dW _ (dW _ (dW _ e))));have v5:(Vq s.heap t1 t2).get? (zB4 s.heap t1 t2).objs.size=some _:=dw _ rfl;have v4:(Vq s.heap t1 t2).get? (zB3 s.heap t1 t2).objs.size=some _:=dW _ (dw _ rfl);have v3:(Vq s.heap t1 t2).get? (zB2 s.heap t1 t2).objs.size=some _:=dW _ (dW _ (dw _ rfl));have v2:(Vq s.heap t1 t2).get? (X8 s.heap t1).objs.size=some _:=dW _ (dW _ (dW _ (dw _ rfl)));have v1:(Vq s.heap t1 t2).get? s.heap.objs.size=some _:=dW _ (dW _ (dW _ (dW _ (dw _ rfl))));refine callType_new F.called_zip (by decide) (F.typeCall_zip_2 _ _) (F.newCall_zip_2 _ _) (fun x=>F.args_object_init_3 x _ _) F.entry_zip_new (SM t1 t2 xs ys) ⟨hx,hy,?_⟩
 show _/\_;rw[n2,n3,n4] at v5;rw[n1,n2] at v3;rw[n3] at v4;rw[n1] at v2;rw[n4];exact⟨⟨_,v5,rfl⟩,q _ v5 v3 v4 ⟨_,v1,rfl,rfl⟩ ⟨_,v2,rfl,rfl⟩ up⟩
theorem VH {X:Cx} {pins:List (Addr×Obj)} {σ:St} {H:Hp} {s:Shared} {a b:Addr} {xs:List V} (I:Inv X pins σ H s) (hq:cg X.K H a xs) (hf:fV X pins H b):a≠b:=fun z=>by
 rcases hq with h | ⟨o,its,n,hk,_⟩
 ·rcases h with h | ⟨o,h⟩ <;> (rw[z,hf.1] at h; cases h)
 ·have e:X.base.get? a=some o:=I.ok.mod.U4 a o hk;rcases hf.2.2.2.1 with y | y
  ·exact I.ok.Hg a o e (z▸y)
  ·have l:=cz e;have m:=I.ok.My;rw[z] at l;exact absurd (mF l (j4 m y)) (sX _)
def kL:Knd:=⟨fun K=>cg K,fun h i a n=>h.IsListIter i a n,fun h a us=>h.IsList a us,fun⟨o,g,_,d⟩=>⟨o,g,fun v q=>by rw[d] at q; cases q⟩,fun g k=>g.at k,fun I h=>(I.list h).elim fun us p=>⟨us,p.1,p.2.1.isList⟩,fun I h h'=>I.wQ h h',fun I h f=>VH I h f,fun hh i a n us=>Draws.list hh i a n us⟩
abbrev QJ:=XJ kL kL
section
variable {X:Cx}
def JS (K:PySem.W.Frag) (ta:TA):TI:=fun σ H R=>ta σ H fun vs H1=>∃a b,vs=[.ref a,.ref b]/\(∃xs,cg K H1 a xs)/\(∃ys,cg K H1 b ys)/\R (QJ K a b) H1
theorem Ju {K:PySem.W.Frag} {e e':Expr} {elts:List Expr} {x1} {tp p pos:Pos} {ta:TA} (hK:X.K=K) (hm:X.mg "zip" = none) (ha:PA X [e,e'] ta) (hg:Gl X "zip" := by rfl) (h1:b8 e=true:=by rfl) (h2:b8 e'=true:=by rfl) :
  PI X (.Tuple elts x1 tp) (.Call (.Name "zip" p) [e,e'] [] pos) (JS K ta):=by
 subst hK;refine .mk ?_;intro pins s σ H R I h;refine uy (iJ I hg hm H_ ?_ (by decide) (by decide))
 refine PyProof.Rows.callWith_type1 (cI (ha pos pins s σ H _ I h) fun us s1 ⟨vs,H1,I1,r1,q1⟩=>?_) (cB h1) (cM (es:=[e']) (by simp[h2]))
 obtain⟨a,b,rfl,⟨xs,hx⟩,⟨ys,hy⟩,q⟩:=q1;obtain⟨u,v,rfl,ru,rv⟩:=r1.two;cases ru;cases rv;obtain⟨us,_,pu,_⟩:=I1.list hx;obtain⟨ws,_,pw,_⟩:=I1.list hy;refine zO pu.isList pw.isList fun h' hz hp ho h1 h2 kk=>?_;have I2:Inv X pins σ H1 { s1 with heap:=h' }:=I1.kept (t':=s1.toks) kk
 have fr:∀n,H1 (s1.heap.objs.size+n)=none:=fun n=>I1.hok.fresh (KD _ _);have fk:∀n,fV X pins H1 (s1.heap.objs.size+n):=fun n=>I1.tR (KD _ _) (fr n);have ne:∀i j:Nat,i≠j->s1.heap.objs.size+i≠s1.heap.objs.size+j:=fun i j n e=>n (Nat.add_left_cancel e);refine Ji hz ⟨s1.heap.objs.size+4,_,_,QJ X.K a b,H1,rfl,I2,yG kL kL a b (s1.heap.objs.size+4) (s1.heap.objs.size+2) (s1.heap.objs.size+3) s1.heap.objs.size (s1.heap.objs.size+1) (ne _ _ (by decide)) (ne _ _ (by decide)) (ne _ _ (by decide)) (ne 0 _ (by decide)) (ne _ _ (by decide)) (ne _ 0 (by decide)) (ne _ _ (by decide)) (ne 0 _ (by decide)) (ne _ 0 (by decide)) (ne _ _ (by decide)),⟨hz,hp,⟨_,_,ho⟩,h1,h2⟩,fun c hc=>?_,q⟩
 simp only[bI,dD,or_false] at hc;rcases hc with rfl | rfl | rfl | rfl | rfl
 ·exact fk 4
 ·exact fk 2
 ·exact fk 3
 ·exact fk 0
 ·exact fk 1
end
theorem Mg {K:PySem.W.Frag} {js:List Nat} {a b:Addr} {xs ys:List V} {es:List PyData} {ta:TA} {te:TE} {σ:St} {H:Hp} {Q:VK} (hl:∀R:List V->Hp->Prop,R [.ref a,.ref b] H->ta σ H R) (ha:H a=some (.lst xs)) (hb:H b=some (.lst ys)) (n1:xs.length=es.length) (n2:ys.length=es.length) (hz:es.length<=sizeLine) (hL:bK es=true)
  (val:∀(i:Nat) x y e H',xs[i]?=some x->ys[i]?=some y->es[i]?=some e->aP H H'->∀R:VK,(∀v dC,aP H' dC->At dC e v->R v dC)->te (some x::some y::b7 js σ) H' R)
  (fin:∀acc zs H',aP H H'->H acc=none->H' acc=some (.lst zs)->aj (hid acc H') es zs->Q (.ref acc) H'):eV 2 js (JS K ta) (LQ K 2 (jN (fK 0) (jN (fK 1) Bw))) rZ te σ H Q:=by
 refine hl _ ⟨a,b,rfl,⟨xs,cg.of ha⟩,⟨ys,cg.of hb⟩,fun acc hacc=>?_⟩;have gx:∀i,i<es.length->xs[i]?=some (xs.getD i .non):=fun i hi=>by rw[lC,dN (by omega)]; rfl
 have gy:∀i,i<es.length->ys[i]?=some (ys.getD i .non):=fun i hi=>by rw[lC,dN (by omega)]; rfl
 refine xj (es:=es) (fun i=>xs.getD i .non) (fun i=>ys.getD i .non) hz hL hacc (fun i H' hi s=>⟨xs,ys,_,_,cg.of (s _ _ ha),cg.of (s _ _ hb),gx i hi,gy i hi⟩) (fun i H' v dC hi s y=>?_) (fun H' s=>⟨xs,ys,cg.of (s _ _ ha),cg.of (s _ _ hb),.inl n1.symm⟩) (fun i e H' he s R hR=>?_) fun zs H' s h1 h2=>fin acc zs H' s hacc h1 h2
 ·obtain⟨p,x,y,fp,e1,e2,h1,h2⟩:=y;have q1:=h1 xs (cg.of (s _ _ ha));have q2:=h2 ys (cg.of (s _ _ hb));rw[gx i hi] at q1;rw[gy i hi] at q2;cases q1;cases q2;exact⟨p,fp,e1,e2⟩
 ·have hi:i<es.length:=by
   by_cases z:i<es.length
   ·exact z
   ·rw[List.getElem?_eq_none (by omega)] at he; cases he
  exact val i _ _ e H' (gx i hi) (gy i hi) he s R hR
theorem Tv {K:PySem.W.Frag} {js:List Nat} {a:Addr} {xs:List V} {tl te:TE} {σ:St} {H:Hp} {Q:VK} (hl:∀R:VK,R (.ref a) H->tl σ H R) (ha:H a=some (.lst xs)) (hz:xs.length<=sizeLine)
  (h:∀acc,H acc=none->∃Pv:Nat->List V->Hp->Prop,Pv 0 [] (upd H acc (.lst []))/\(∀i ys H',i<=xs.length->Pv i ys H'->ys.length=i/\H' a=some (.lst xs)/\H' acc=some (.lst ys)) /\
   (∀i x ys H',xs[i]?=some x->Pv i ys H'->∀R:VK,(∀y dC,dC acc=some (.lst ys)->Pv (i+1) (ys++[y]) (upd dC acc (.lst (ys++[y])))->R y dC)->te (some x::b7 js σ) H' R) /\
   ∀ys H',Pv xs.length ys H'->Q (.ref acc) H'):gQ js (kJ K tl) te σ H Q:=by
 refine hl _ ⟨a,rfl,⟨xs,cg.of ha⟩,fun acc hacc=>?_⟩;obtain⟨Pv,p0,keep,step,fin⟩:=h acc hacc;refine⟨fun i m ys H2=>m=xs.length-i/\i<=xs.length/\Pv i ys H2,⟨_,rfl,gw _,p0⟩,?_⟩;rintro i m ys H2 ⟨rfl,hi,p⟩;obtain⟨ly,ka,kc⟩:=keep i ys H2 hi p;by_cases hlt:i<xs.length
 ·refine .inr ⟨⟨xs,xs[i],cg.of ka,dN hlt⟩,fun x H3 y=>?_⟩;obtain⟨e,y⟩:=y;subst e;exact step i x ys H3 (y xs (cg.of ka)) p _ fun y' H4 e4 p4=>⟨e4,by omega,xs.length-(i+1),by omega,rfl,hlt,p4⟩
 ·have e:i=xs.length:=by omega
  subst e;exact .inl ⟨⟨xs,cg.of ka,bL _⟩,fin _ _ p⟩
theorem LCK.inv {K:PySem.W.Frag} {js:List Nat} {a:Addr} {xs:List V} {te:TE} {σ:St} {H:Hp} {Q:VK} (ha:H a=some (.lst xs)) (hz:xs.length<=sizeLine)
  (h:∀acc,H acc=none->∃Pv:Nat->List V->Hp->Prop,Pv 0 [] (upd H acc (.lst []))/\(∀i ys H',i<=xs.length->Pv i ys H'->ys.length=i/\H' a=some (.lst xs)/\H' acc=some (.lst ys)) /\
   (∀i x ys H',xs[i]?=some x->Pv i ys H'->∀R:VK,(∀y dC,dC acc=some (.lst ys)->Pv (i+1) (ys++[y]) (upd dC acc (.lst (ys++[y])))->R y dC)->te (some x::b7 js σ) H' R) /\
   ∀ys H',Pv xs.length ys H'->Q (.ref acc) H'):LCK K js te σ Q (.ref a) H:=Tv (fun R h=>h) ha hz h
end L2
namespace L2
open PySem
structure Pl (n:Nat) (d:PyData):Prop where
 hd:d.hasDict=false
 cl:d.canLay0=true
 dp:d.depth<=n
end L2
namespace L2
open PySem PySem.Spec PyProof.Rows
def XS (h:Heap) (e:Addr) (cls:Value) (T:Addr):Prop:=∃oe vs,h.get? e=some oe/\(oe.cls=cls/\oe.dict=none)/\oe.data=.fields vs/\vs[1]?=some (.ref T)/\vs[2]?=some .none
def Xy (h:Heap) (T:Addr):Prop:=∃oT ts,h.get? T=some oT/\oT.data=.fields ts/\ts[3]?=some .none
structure af1 (fs:List Addr) (h h':Heap) (e T:Addr) (cls:Value):Prop where
 keep:∀b o,b≠e->b∉fs->h.get? b=some o->h'.get? b=some o
 slot:∀b o,b≠e->h.get? b=some o->∃sl,h'.get? b=some { o with slots:=sl }
 fresh:h.objs.size<=T
 ex:XS h' e cls T
 tb:Xy h' T
section
variable {M:Model} {A:Around} {E:Value->Shared->Prop} {s:Shared}
structure aeb (fs:List Addr) (h h':Heap) (e T0 T:Addr) (cls:Value):Prop where
 keep:∀b o,b≠e->b≠T0->b∉fs->h.get? b=some o->h'.get? b=some o
 slot:∀b o,b≠e->b≠T0->h.get? b=some o->∃sl,h'.get? b=some { o with slots:=sl }
 old:∃o,h'.get? T0=some o
 fresh:h.objs.size<=T
 ex:XS h' e cls T
 tb:Xy h' T
end
section
variable {P:Program} {w:World} {H H':Hp} {h h':Heap} {a:Addr} {o:HO}
def ExO (e:Addr) (cls:Value) (T:Addr):HO:=.ext fun h=>XS h e cls T
def TbO (T:Addr):HO:=.ext fun h=>Xy h T
end
def QK (P:Program) (w:World):Ka:=fun outer H s E e s'=>∃(a T:Addr) (cls:Value) (H':Hp),e=.ref a/\s'.os=s.os/\AllBare s'.gens/\Un (frs outer) [] H H' s.heap s'.heap/\nY P w H' s'.heap /\
 H' a=some (ExO a cls T)/\H' T=some (TbO T)/\T≠a/\(s.heap.get? a=none/\s.heap.get? T=none)/\E cls none H'
section
variable {P:Program} {w:World} {K:PySem.W.Frag} {mg:Str->Option Value} {base:Heap} {N:List Str} {qual:Str} {scope:Scope} {f:Addr} {cd:Value} {A:Around} {outer:List Env} {s0:Shared} {H0:Hp} {E:XK}
end
def veM:List Value:=[.type "ValueError",.type "Exception",.type "BaseException",.type "object"]
structure ExC (K:PySem.W.Frag) (mg:Str->Option Value) (x:Str) (C:Addr):Prop where
 bound:mg x=some (.ref C)
 ok:PySem.W.excIn K C veM "ValueError.__new__" = true
def Vx (E:XK) (C:Addr) (ta:TA):TS:=fun _ σ H=>ta σ H fun vs H1=>vs.length<=sizeLine/\∀H',aP H1 H'->E (.ref C) none H'
section
variable {P:Program} {w:World} {K:PySem.W.Frag} {mg:Str->Option Value} {base:Heap} {N:List Str} {qual:Str} {scope:Scope} {f:Addr} {cd:Value} {A:Around} {outer:List Env} {s0:Shared} {H0:Hp} {E:XK}
end
section
variable {X:Cx} {pins:List (Addr×Obj)} {σ:St} {H:Hp} {s:Shared}
end
section
variable {X:Cx} {pins:List (Addr×Obj)} {σ:St} {H:Hp} {s:Shared}
end
section
variable {X:Cx} {pins:List (Addr×Obj)} {σ:St} {H1:Hp} {s1 s':Shared}
end
section
variable {P:Program} {w:World} {K:PySem.W.Frag} {mg:Str->Option Value} {base:Heap}
theorem Xh {CX:Ka} {k:Nat} {f:Addr} {name qual:Str} {params:Arguments} {body:List Stmt} {scope:Scope} {dV kV doc pm cdv ct oc:Value} {an od:Option Addr}
  {osl:Array (Option Value)} {N ps:List Str} {sp:Sp} (lk:K.lookup f=some ⟨oc,od,.func (PySem.W.fnOf name qual params body scope dV kV doc pm an cdv ct),osl⟩) (hcd:PySem.W.codeIn K cdv qual=true) (S:aV N ps scope)
  (len:∀vs H Q E,sp vs H Q E->vs.length=ps.length)
  (hbody:∀(A:Around) (outer:List Env) (s:Shared) (H:Hp) (vs:List V) (Q:VK) (E:XK),nY P w H s.heap->fU k (A.deeper (envOfC qual scope s.heap.objs.size f cdv))->sp vs H Q E ->
   ∃t,Fo (xf CX P w K mg base N qual scope f cdv A outer s H E) body t/\t { nx:=fun _ H'=>Q .non H',rt:=Q } (start N vs) H) :
  bJ P w K mg base CX (k+1) f (PySem.W.fnOf name qual params body scope dV kV doc pm an cdv ct) ps sp:=by
 refine⟨len,fun A outer s H args us vs Q E hr e0 hb r hsp=>?_⟩;have hl:=len _ _ _ _ hsp;have KX:K.In s.heap:=e0.mod.U4.keeps fun b o e=>(e0.bs b o e).1;have lim:s.heap.NoLimit:=e0.mod.nolimit.keeps fun b o e=>(e0.bs b o e).1
 have hkind:∀y∈ps.zip us,scope.names.lookup y.1=some .local\/(scope.names.lookup y.1=some .cell/\((cellsFrom (s.heap.objs.size+1) scope.names []).lookup y.1).isSome=true):=fun⟨n,v⟩ hy=>by
  rcases S.par n (DP hy).1 with q | q
  ·exact .inl q
  ·exact .inr ⟨q,PySem.W.cellsFrom_some _ _ _ (.inl q)⟩
 refine codeAny_call_function hr.depth (KX _ _ lk) rfl S.co S.gen rfl (PySem.W.codeRec_of KX hcd) (hb _ _ _ _ ?_);refine wpAny_newFunctionEnv_cells S.kind hkind fun env he s1 x=>?_;subst he;refine⟨lim.keeps x.toInCall.keep,codeAny_func ?_⟩;obtain⟨t,ht,hq⟩:=hbody A outer s H vs Q E e0.hok (hr.deeper _) hsp;have I:Inv (xf CX P w K mg base N qual scope f cdv A outer s H E) [] (start N vs) H s1:=zg S hr.hd e0 hl r x;refine oU (ht [] s1 (start N vs) H _ I hq) (fun fl s' hs=>?_) fun e s' hs=>hs
 have fin:∀{σ':St} {H':Hp} {v:V} {u:Value},Inv (xf CX P w K mg base N qual scope f cdv A outer s H E) [] σ' H' s'->RelV v u->Q v H'->CE outer P w H s Q u s':=
  fun {σ' H' v u} J rv q=>⟨v,H',J.os,J.bare,J.base,J.hok,rv,q⟩
 cases fl with
 | ret u=>
  obtain⟨v,σ',H',J,rv,q⟩:=hs;exact fin J rv q
 | next=>
  obtain⟨σ',H',J,q⟩:=hs;exact fin (v:=V.non) (u:=Value.none) J rfl q
 | brk=>
  obtain⟨_,_,_,q⟩:=hs;exact False.elim q
 | cont=>
  obtain⟨_,_,_,q⟩:=hs;exact False.elim q
structure CtE (P:Program) (w:World) (K:PySem.W.Frag) (mg:Str->Option Value) (base:Heap) (k:Nat) (x:Str) (ps:List Str) (sp:Sp) where
 f:Addr
 fd:FuncData
 G:bJ P w K mg base (QK P w) k f fd ps sp
 kp:PySem.W.keepIn K (.ref f)=true
 b:Binds K fd ps []
 m:mg x=some (.ref f)
end
section
variable {prog:Program} {w:World} {A:Around} {E:Value->Shared->Prop} {s:Shared} {K:PySem.W.Frag} {x D:Addr} {ox:Obj} {od:Option Obj}
structure ExK (K:PySem.W.Frag) (D:Addr):Prop where
 ga:PySem.W.findIn K (.ref D) "__getattribute__" = some (some (.builtin "BaseException.__getattribute__"))
 gt:PySem.W.findIn K (.ref D) "__getattr__" = some none
 fo:PySem.W.findObj K D none "__class__" = some (.bind (.builtin "getset_descriptor.__get__") (.builtin "object.__class__"))
 sb:PySem.W.subIn K (.ref D) (.type "BaseException")=some true
 ob:PySem.W.mroIn K D (.type "object")=some true
end
section
variable {X:Cx}
end
noncomputable instance abD:DecidableEq PyData:=fun a b=>Classical.propDecidable (a=b)
mutual
def ndK:PyData->Bool
 | .int _=>true
 | .tuple ds=>Z8 ds
 | _=>false
def Z8:List PyData->Bool
 | []=>true
 | d::ds=>ndK d&&Z8 ds
end
mutual
def PN:PyData->Int
 | .int i=>hashInt i
 | .tuple ds=>reduceHash (Builtin.Tuple.tupleHashOf (PL ds))
 | _=>0
def PL:List PyData->List Int
 | []=>[]
 | d::ds=>PN d::PL ds
end
structure aaV (d:PyData):Prop where
 t:∃ds,d=.tuple ds
 k:ndK d=true
 dp:d.depth<=8
section
variable {X:Cx} {pins:List (Addr×Obj)} {σ:St} {H:Hp} {s:Shared} {a:Addr} {kvs:List (PyData×V)}
def aaW (H:Hp) (d:PyData) (y:V):Prop:=aaV d/\At H d y
end
section
variable {X:Cx}
end
section
variable {P:Program} {w:World} {K:PySem.W.Frag} {mg:Str->Option Value} {base:Heap} {N:List Str} {qual:Str} {scope:Scope} {f:Addr} {cd:Value} {A:Around} {outer:List Env} {s0:Shared} {H0:Hp} {E:XK}
def VD (sp:Sp) (uL:List V) (E:XK) (t:TA):TE:=fun σ H Q=>t σ H fun vs H1=>sp (vs++uL) H1 Q (fun cls _ H2=>∀H3,(aP H1 H2->aP H1 H3)->E cls none H3)
end
abbrev TX:=St->Hp->VK->(Value->Hp->Hp->Prop)->Prop
abbrev T9:=Ends->(Value->St->Hp->Hp->Prop)->St->Hp->Prop
def XL (X:Cx) (pins:List (Addr×Obj)) (σ:St) (EE:Value->Hp->Hp->Prop):Value->Shared->Prop:=fun e s'=>∃H1 s1 E',Inv X pins σ H1 s1/\QK X.prog X.w X.stack H1 s1 E' e s'/\∀cls H2,E' cls none H2->EE cls H1 H2
def XLs (X:Cx) (pins:List (Addr×Obj)) (EE:Value->St->Hp->Hp->Prop):Value->Shared->Prop:=fun e s'=>∃σ1 H1 s1 E',Inv X pins σ1 H1 s1/\QK X.prog X.w X.stack H1 s1 E' e s'/\∀cls H2,E' cls none H2->EE cls σ1 H1 H2
structure PX (X:Cx) (e:Expr) (t:TX):Prop where
 mk ::
 go:∀(pins:List (Addr×Obj)) (s:Shared) (σ:St) (H:Hp) (Q:VK) (EE:Value->Hp->Hp->Prop),Inv X pins σ H s->t σ H Q EE->wpAny (model X.prog X.w) X.A (eval e X.env) (EP X pins σ Q) (XL X pins σ EE) s
structure PSX (X:Cx) (st:Stmt) (t:T9):Prop where
 mk ::
 go:∀(pins:List (Addr×Obj)) (s:Shared) (σ:St) (H:Hp) (D:Ends) (EE:Value->St->Hp->Hp->Prop),Inv X pins σ H s->t D EE σ H->wpAny (model X.prog X.w) X.A (exec st X.env) (SP X pins D) (XLs X pins EE) s
structure ajr (X:Cx) (st:List Stmt) (t:T9):Prop where
 mk ::
 go:∀(pins:List (Addr×Obj)) (s:Shared) (σ:St) (H:Hp) (D:Ends) (EE:Value->St->Hp->Hp->Prop),Inv X pins σ H s->t D EE σ H->wpAny (model X.prog X.w) X.A (execs st X.env) (SP X pins D) (XLs X pins EE) s
def xPe (te:TE):TX:=fun σ H Q _=>te σ H Q
def YW (sp:Sp) (uL:List V) (ta:TA):TX:=fun σ H Q EE=>ta σ H fun vs H1=>sp (vs++uL) H1 Q (fun cls _ H2=>EE cls H1 H2)
def xIf (tc:TT) (a b:TX):TX:=fun σ H Q EE=>tc σ H fun d H1=>if d=true then a σ H1 Q EE else b σ H1 Q EE
def abY (i:Nat) (t:TX):T9:=fun D EE σ H=>t σ H (fun v H'=>D.nx (σ.set i (some v)) H') (fun cls H1 H2=>EE cls σ H1 H2)
def YQ (t:TX):T9:=fun D EE σ H=>t σ H (fun _ H'=>D.nx σ H') (fun cls H1 H2=>EE cls σ H1 H2)
def ab2 (tc:TT) (a b:T9):T9:=fun D EE σ H=>tc σ H fun d H1=>if d=true then a D EE σ H1 else b D EE σ H1
def xPs (t:TS):T9:=fun D _ σ H=>t D σ H
def abZ (a b:T9):T9:=fun D EE σ H=>a { D with nx:=fun σ' H'=>b D EE σ' H' } EE σ H
section
variable {X:Cx}
end
section
variable {X:Cx}
end
abbrev mJ (K:PySem.W.Frag) (x:Str) (st:Stmt) (f:Addr):Prop:=∃(oc:Value) (od an:Option Addr) (sl:Array (Option Value)) (kV dc pm cd ct:Value),PySem.W.nsIn K mainGlobals x=some (some (.ref f))/\K.lookup f=some ⟨oc,od,.func (PySem.W.fnOf x x (cu st) (bV st) (aF st) .none kV dc pm an cd ct),sl⟩/\PySem.W.codeIn K cd x=true/\PySem.W.keepIn K (.ref f)=true
abbrev Vl (K:PySem.W.Frag) (x:Str) (st:Stmt) (f:Addr) (T:Addr) (i:Int):Prop:=∃(oc oT:Value) (od an dT:Option Addr) (sl sT:Array (Option Value)) (kV dc pm cd ct:Value) (t:Tok) (nT:Nat),PySem.W.nsIn K mainGlobals x=some (some (.ref f))/\K.lookup f=some ⟨oc,od,.func (PySem.W.fnOf x x (cu st) (bV st) (aF st) (.ref T) kV dc pm an cd ct),sl⟩/\PySem.W.codeIn K cd x=true/\PySem.W.keepIn K (.ref f)=true/\K.lookup T=some ⟨oT,dT,.seq #[.int i t] nT,sT⟩
structure Has (K:PySem.W.Frag) (mg:Str->Option Value) (x:Str) (st:Stmt) (ps:List Str) where
 f:Addr
 fd:FuncData
 F:iK K x x st f fd
 b:Binds K fd ps []
 m:mg x=some (.ref f)
structure XN (K:PySem.W.Frag) (mg:Str->Option Value) (x:Str) (st:Stmt) (ps:List Str) (i:Int) where
 f:Addr
 fd:FuncData
 T:Addr
 t:Tok
 F:Ik K x x st f fd T i t
 b:Binds K fd ps []
 bd:Binds K fd ps [.int i t]
 m:mg x=some (.ref f)
section
variable {K:PySem.W.Frag} {h:Heap} {mg:Str->Option Value}
theorem mJ.mk {x:Str} {st:Stmt} {f:Addr} {oc:Value} {od an:Option Addr} {sl:Array (Option Value)} {kV dc pm cd ct:Value} (a:PySem.W.nsIn K mainGlobals x=some (some (.ref f))) (l:K.lookup f=some ⟨oc,od,.func (PySem.W.fnOf x x (cu st) (bV st) (aF st) .none kV dc pm an cd ct),sl⟩) (c:PySem.W.codeIn K cd x=true) (k:PySem.W.keepIn K (.ref f)=true):mJ K x st f:=⟨oc,od,an,sl,kV,dc,pm,cd,ct,a,l,c,k⟩
theorem Vl.mk {x:Str} {st:Stmt} {f T:Addr} {i:Int} {oc oT:Value} {od an dT:Option Addr} {sl sT:Array (Option Value)} {kV dc pm cd ct:Value} {t:Tok} {nT:Nat} (a:PySem.W.nsIn K mainGlobals x=some (some (.ref f))) (l:K.lookup f=some ⟨oc,od,.func (PySem.W.fnOf x x (cu st) (bV st) (aF st) (.ref T) kV dc pm an cd ct),sl⟩) (c:PySem.W.codeIn K cd x=true) (k:PySem.W.keepIn K (.ref f)=true) (e:K.lookup T=some ⟨oT,dT,.seq #[.int i t] nT,sT⟩):Vl K x st f T i:=⟨oc,oT,od,an,dT,sl,sT,kV,dc,pm,cd,ct,t,nT,a,l,c,k,e⟩
theorem mJ.has {x:Str} {st:Stmt} {f:Addr} (e:mJ K x st f) (X:K.In h) (G:h.Ns mainGlobals mg) {ps:List Str} (H:∀(kV doc pm:Value) (an:Option Addr) (cdv ct:Value) (us:List Value),us.length=ps.length->bindArgs (PySem.W.fnOf x x (cu st) (bV st) (aF st) .none kV doc pm an cdv ct) ⟨us,[]⟩=pure (ps.zip us)):Nonempty (Has K mg x st ps):=by
 obtain⟨oc,od,an,sl,kV,dc,pm,cd,ct,a,l,c,k⟩:=e;have F:=Hw (st:=st) l c k;exact⟨⟨_,_,F,F.binds H,PySem.W.mg_of X G a⟩⟩
theorem Vl.has {x:Str} {st:Stmt} {f T:Addr} {i:Int} (e:Vl K x st f T i) (X:K.In h) (G:h.Ns mainGlobals mg) {ps:List Str}
  (H:∀(t:Tok) (kV doc pm:Value) (an:Option Addr) (cdv ct:Value) (us:List Value),(us++[]).length=ps.length->∃k,bindArgs (PySem.W.fnOf x x (cu st) (bV st) (aF st) (.ref T) kV doc pm an cdv ct) ⟨us,[]⟩=seqItems? (.ref T) >>= k/\k (some #[.int i t])=pure (ps.zip (us++[])))
  (H':∀(t:Tok) (kV doc pm:Value) (an:Option Addr) (cdv ct:Value) (us:List Value),(us++[Value.int i t]).length=ps.length->∃k,bindArgs (PySem.W.fnOf x x (cu st) (bV st) (aF st) (.ref T) kV doc pm an cdv ct) ⟨us,[]⟩=seqItems? (.ref T) >>= k/\k (some #[.int i t])=pure (ps.zip (us++[.int i t]))):Nonempty (XN K mg x st ps i):=by
 obtain⟨oc,oT,od,an,dT,sl,sT,kV,dc,pm,cd,ct,t,nT,a,l,c,k,e⟩:=e;have F:Ik K x x st f _ T i t:=⟨⟨_,_,_,_,_,_,_,_,_,rfl,l,c⟩,k,⟨_,_,e,rfl⟩⟩;exact⟨⟨_,_,_,_,F,F.binds (H t),F.binds (H' t),PySem.W.mg_of X G a⟩⟩
def Has.ct {x:Str} {st:Stmt} {ps:List Str} {k:Nat} {sp:Sp} (h:Has K mg x st ps) (P:Program) (w:World) (base:Heap) (G:bJ P w K mg base gf k h.f h.fd ps sp):Ct P w K mg base k x ps sp:=⟨h.f,h.fd,G,h.F.kp,h.b,h.m⟩
def XN.ct {x:Str} {st:Stmt} {ps:List Str} {i:Int} {k:Nat} {sp:Sp} (h:XN K mg x st ps i) (P:Program) (w:World) (base:Heap) (G:bJ P w K mg base gf k h.f h.fd ps sp):Q5 P w K mg base k x ps i sp:=⟨h.f,h.fd,h.t,G,h.F.kp,h.b,h.bd,h.m⟩
abbrev Nb (K:PySem.W.Frag) (x:Str):Prop:=PySem.W.nsIn K mainGlobals x=some none
abbrev Ni (K:PySem.W.Frag) (x:Str) (i:Int):Prop:=∃t,PySem.W.nsIn K mainGlobals x=some (some (.int i t))
abbrev Cr (K:PySem.W.Frag) (x s:Str):Prop:=∃t,PySem.W.nsIn K mainGlobals x=some (some (.str s t))
theorem Ni.mk {x:Str} {i:Int} {t:Tok} (a:PySem.W.nsIn K mainGlobals x=some (some (.int i t))):Ni K x i:=⟨t,a⟩
theorem Cr.mk {x s:Str} {t:Tok} (a:PySem.W.nsIn K mainGlobals x=some (some (.str s t))):Cr K x s:=⟨t,a⟩
theorem Ni.gi {x:Str} {i:Int} (e:Ni K x i) (X:K.In h) (G:h.Ns mainGlobals mg):Gi mg x i:=let ⟨t,z⟩:=e; ⟨t,PySem.W.mg_of X G z⟩
theorem Cr.gs {x s:Str} (e:Cr K x s) (X:K.In h) (G:h.Ns mainGlobals mg):Gs mg x s:=let ⟨t,z⟩:=e; ⟨t,PySem.W.mg_of X G z⟩
abbrev NT (K:PySem.W.Frag) (x:Str) (vs:List Value):Prop:=∃(a:Addr) (n:Nat) (sl:Array (Option Value)),PySem.W.nsIn K mainGlobals x=some (some (.ref a))/\K.lookup a=some ⟨.type "tuple",none,.seq vs.toArray n,sl⟩
theorem NT.mk {x:Str} {vs:List Value} {a:Addr} {n:Nat} {sl:Array (Option Value)} (b:PySem.W.nsIn K mainGlobals x=some (some (.ref a))) (l:K.lookup a=some ⟨.type "tuple",none,.seq vs.toArray n,sl⟩):NT K x vs:=⟨a,n,sl,b,l⟩
end
theorem Qv:bootBuiltins "set" = some (.type "set"):=by decide +kernel
section
variable {X:Cx} {pins:List (Addr×Obj)} {σ:St} {H1:Hp} {s1 s':Shared}
end
section
variable {P:Program} {w:World} {K:PySem.W.Frag} {mg:Str->Option Value} {base:Heap}
structure CtF (P:Program) (w:World) (K:PySem.W.Frag) (mg:Str->Option Value) (base:Heap) (k:Nat) (x:Str) (ps:List Str) (i:Int) (sp:Sp) where
 f:Addr
 fd:FuncData
 t:Tok
 G:bJ P w K mg base (QK P w) k f fd ps sp
 kp:PySem.W.keepIn K (.ref f)=true
 b:Binds K fd ps []
 bd:Binds K fd ps [.int i t]
 m:mg x=some (.ref f)
end
section
variable {X:Cx}
end
section
variable {X:Cx}
def ZC:List V->Hp->VK->Prop:=fun vs H Q=>∃j:Int,vs=[.int j]/\-(2 ^ 62)<=j/\j<2 ^ 62/\∀p H',H p=none->aP H H'->H' p=some (.Zw 0 j)->Q (.ref p) H'
def ZF:List V->Hp->VK->Prop:=fun vs H Q=>∃(p:Addr) (j:Int),vs=[.ref p]/\H p=some (.Zw 0 j)/\-(2 ^ 62)<=j/\j<2 ^ 62/\j.toNat<=1000/\∀l H',H l=none->aP H H'->H' l=some (.lst ((List.range j.toNat).map fun i:Nat=>V.int i))->Q (.ref l) H'
end
def iOr (a b:TI):TI:=fun σ H R=>a σ H R\/b σ H R
theorem PI.or {X:Cx} {tg it:Expr} {a b:TI} (h:PI X tg it a) (h':PI X tg it b):PI X tg it (iOr a b):=.mk fun pins s σ H R I q=>q.elim (h pins s σ H R I) (h' pins s σ H R I)
theorem yK {nt:Nat} {js:List Nat} {a b:TI} {g:TG} {tc:TT} {te:TE} {σ:St} {H:Hp} {Q:VK}:eV nt js (iOr a b) g tc te σ H Q=(eV nt js a g tc te σ H Q\/eV nt js b g tc te σ H Q):=rfl
theorem RW {X:Cx} {K:PySem.W.Frag} {e e':Expr} {elts:List Expr} {x1} {tp p pos:Pos} {ta:TA} (hK:X.K=K) (hm:X.mg "zip" = none) (ha:PA X [e,e'] ta) (hg:Gl X "zip" := by rfl) (h1:b8 e=true:=by rfl) (h2:b8 e'=true:=by rfl) :
  PI X (.Tuple elts x1 tp) (.Call (.Name "zip" p) [e,e'] [] pos) (iOr (Ep K ta) (JS K ta)):=.or (Jt hK hm ha hg h1 h2) (Ju hK hm ha hg h1 h2)
section
variable {X:Cx}
theorem M4 {xs:List V}:∀{us:List Value},Vals xs us->∀{j:Nat} {x:V},xs[j]?=some x->∃u,us[j]?=some u/\RelV x u:=by
 induction xs with
 | nil=>intro us _ j x h; simp at h
 | cons y ys ih=>
  intro us r j x h;cases r with
  | cons r1 r2=>
   cases j with
   | zero=>simp at h; subst h; exact⟨_,rfl,r1⟩
   | succ j=>simp at h; obtain⟨u,h1,h2⟩:=ih r2 h; exact⟨u,by simpa using h1,h2⟩
theorem Kf {xs:List V}:∀{us:List Value},Vals xs us->∀{j:Nat} {u:Value},us[j]?=some u->∃x,xs[j]?=some x/\RelV x u:=by
 induction xs with
 | nil=>intro us r j u h; cases r; simp at h
 | cons y ys ih=>
  intro us r j x h;cases r with
  | cons r1 r2=>
   cases j with
   | zero=>simp at h; subst h; exact⟨_,rfl,r1⟩
   | succ j=>simp at h; obtain⟨u,h1,h2⟩:=ih r2 h; exact⟨u,by simpa using h1,h2⟩
end
section
variable {X:Cx}
theorem vo (hu:X.A.units+64<cLine):Mu X (fun o i v H Q=>∃a H',o=.ref a/\rP H a i v H'/\Q H'):=by
 refine .mk ?_;intro pins s σ H o i v ov iv u Q I ro ri rv h;obtain⟨a,H',rfl,g,q⟩:=h;cases ro;exact zH (by omega) I g ri rv fun s' I'=>⟨H',I',q⟩
theorem pM (hu:X.A.units+64<cLine):Mz X (fun x y H Q=>∃a v,x=.ref a/\lB H a y (some v)/\Q v H):=by
 refine .mk ?_;intro value slice pins s σ H x y v u Q I rx ry h hs;obtain⟨a,v',rfl,g,q⟩:=h;cases rx;have hT:=Et I g;unfold subscriptTail;refine aW ?_;rw[getitemInPython_of_ne hT.not_modules];refine aW (wpAny_specialOf hT PySem.F.slot_dict_getitem.lookup ?_)
 have fin:wpAny (model X.prog X.w) X.A (subscripted slice false (.ref a) u) (fun r s₃=>wpAny (model X.prog X.w) X.A (letTemporaryGo value (.ref a) r >>= fun _=>pure r) (EP X pins σ Q) X.xe s₃) X.xe s:=by
  rw[hs];exact wpAny_operating (zL (by omega) I g ry fun w' s' I' Df=>aW (wpAny_letTemporaryGo (cF ⟨v',H,I',Df,q⟩)))
 first
  | exact cF (aW fin)
  | exact aW (cF (aW fin))
  | exact aW fin
end
section
variable {X:Cx}
end
section
variable {X:Cx}
def ZJ:V->List V->Hp->VK->Prop:=fun x vs H Q=>∃(l:Addr) (ns:List V) (j:Int) (i:Nat) (n:V),x=.ref l/\vs=[.int j,n]/\j=(i:Int)/\H l=some (.lst ns)/\i<=ns.length/\ns.length<1000/\Q .non (upd H l (.lst (ns.take i++n::ns.drop i)))
theorem Hj:MtM X "list.insert" ZJ:=by
 intro pins s σ H x vs v us Q I rx rv h;obtain⟨l,ns,ij,i,n,rfl,rfl,hij,hH,hi,hn,q⟩:=h;cases rx;obtain⟨u,u2,rfl,⟨t,rfl⟩,ru⟩:=rv.two;obtain⟨z,its,k,r,hl,e⟩:=I.Pj hH;have hlen:=r.length;have hs:1000<sizeLine:=aY (bL _);have ss:its.toArray.size<=sizeLine:=by rw[fu]; omega
 have fi:¬(!Builtin.List.listFitsIndex ij)=true:=Qe (by omega) (by omega)
 have mm:=AutoListH.list_insert_list_int_val_1 l its.toArray k ij t u2 fi ss;have aa:argsOk "list.insert" ⟨[Value.ref l,Value.int ij t,u2],[]⟩:=Qz _ _ _;refine call_meets PySem.F.slot_list_insert ⟨_,e,rfl⟩ PySem.F.entry_list_insert aa mm ⟨e,?_⟩
 ·have rt:∀{xs:List V} {ys:List Value} (j:Nat),Vals xs ys->Vals (xs.take j) (ys.take j):=fun {xs ys} j q=>by
   induction j generalizing xs ys with
   | zero=>exact(.nil:Vals [] [])
   | succ j ih=>
    cases q with
    | nil=>exact(.nil:Vals [] [])
    | cons a b=>exact .cons a (ih b)
  have rd:∀{xs:List V} {ys:List Value} (j:Nat),Vals xs ys->Vals (xs.drop j) (ys.drop j):=fun {xs ys} j q=>by
   induction j generalizing xs ys with
   | zero=>simpa using q
   | succ j ih=>
    cases q with
    | nil=>exact(.nil:Vals [] [])
    | cons a b=>exact ih b
  refine⟨.non,_,I.aae (its':=its.take i++(u2::its.drop i)) hH e ?_ ((rt i r).append (.cons ru (rd i r))) ?_,rfl,q⟩
  ·have ek:(if ij<0 then(ij+((its.toArray.size:Nat):Int)).toNat else min ij.toNat its.toArray.size)=i:=by
    rw[aZ (by omega),hij,tu,fu]; omega
   show(its.toArray.extract 0 (if ij<0 then(ij+((its.toArray.size:Nat):Int)).toNat else min ij.toNat its.toArray.size)).push u2++its.toArray.extract (if ij<0 then(ij+((its.toArray.size:Nat):Int)).toNat else min ij.toNat its.toArray.size)=_
   rw[ek]
   apply Array.ext'
   simp[List.take_take];exact Om (by rw[sY]; exact bL _)
  ·simp;omega
end
section
variable {X:Cx}
end
def xB (r:List V->Hp->VK->Prop) (t:TX):TX:=fun σ H Q EE=>t σ H (fun v H1=>r [v] H1 Q) EE
section
variable {X:Cx}
end
abbrev TAX:=St->Hp->(List V->Hp->Prop)->(Value->Hp->Hp->Prop)->Prop
structure PXA (X:Cx) (es:List Expr) (t:TAX):Prop where
 mk ::
 go:∀(pos:Pos) (pins:List (Addr×Obj)) (s:Shared) (σ:St) (H:Hp) (Q:List V->Hp->Prop) (EE:Value->Hp->Hp->Prop),Inv X pins σ H s->t σ H Q EE->wpAny (model X.prog X.w) X.A (spliced (backTo pos (starEach es X.env))) (AP X pins σ Q) (XL X pins σ EE) s
def ab0:TAX:=fun _ H Q _=>Q [] H
def YT (t:TX) (u:TAX):TAX:=fun σ H Q EE=>t σ H (fun v H1=>u σ H1 (fun vs H2=>Q (v::vs) H2) EE) EE
def ab1 (t:TAX):TX:=fun σ H Q EE=>t σ H (fun xs H1=>xs.length<=sizeLine/\∀p H',H1 p=none->aP H1 H'->H' p=some (.lst xs)->Q (.ref p) H') EE
def abX (t:TAX):TX:=fun σ H Q EE=>t σ H (fun xs H1=>xs.length<=sizeLine/\∀p H',H1 p=none->aP H1 H'->H' p=some (.tup xs)->Q (.ref p) H') EE
section
variable {X:Cx}
end
theorem Qm {K:PySem.W.Frag} {nt:Nat} {g:TG} {js:List Nat} {a:Addr} {xs:List V} {tl te:TE} {σ:St} {H:Hp} {Q:VK} (τ:Nat->St) (hτ:∀i,(τ i).length=nt) (hl:∀R:VK,R (.ref a) H->tl σ H R) (ha:H a=some (.lst xs))
  (h:∀acc,H acc=none->∃Pv:Nat->List V->Hp->Prop,Pv 0 [] (upd H acc (.lst []))/\(∀i ys H',Pv i ys H'->H' a=some (.lst xs)) /\
   (∀i x ys H',xs[i]?=some x->Pv i ys H'->(∀R:St->Hp->Prop,R (τ i++b7 js σ) H'->g x (List.replicate nt none++b7 js σ) H' R)/\te (τ i++b7 js σ) H' fun y H4=>H4 acc=some (.lst ys)/\ys.length<sizeLine/\Pv (i+1) (ys++[y]) (upd H4 acc (.lst (ys++[y]))))/\∀ys H',Pv xs.length ys H'->Q (.ref acc) H'):eV nt js (kJ K tl) g rZ te σ H Q:=by
 refine hl _ ⟨a,rfl,⟨xs,cg.of ha⟩,fun acc hacc=>?_⟩;obtain⟨Pv,p0,pA,ps,pf⟩:=h acc hacc;refine⟨fun i m ys H2=>m=xs.length-i/\i<=xs.length/\Pv i ys H2,⟨_,rfl,gw _,p0⟩,?_⟩;rintro i m ys H2 ⟨rfl,hi,hP⟩;have ht:cg K H2 a xs:=cg.of (pA _ _ _ hP);by_cases hlt:i<xs.length
 ·refine .inr ⟨⟨xs,xs[i],ht,dN hlt⟩,fun x H3 y=>?_⟩;obtain⟨e1,y⟩:=y;subst e1;obtain⟨gg,tt⟩:=ps i x ys _ (y xs ht) hP;refine gg _ ⟨⟨?_,?_⟩,?_⟩
  ·rw[List.drop_append_of_le_length (by rw[hτ]; exact bL _),<- hτ i,Gy,DN]
  ·rw[cN,cN,hτ,tH]
  unfold rZ;simp only[if_true]
  have e:(fun(y:V) (H4:Hp)=>H4 acc=some (.lst ys)/\ys.length<sizeLine/\Pv (i+1) (ys++[y]) (upd H4 acc (.lst (ys++[y]))))=fun y H4=>H4 acc=some (.lst ys)/\ys.length<sizeLine/\∃m',m'<xs.length-i/\(m'=xs.length-(i+1)/\i+1<=xs.length/\Pv (i+1) (ys++[y]) (upd H4 acc (.lst (ys++[y])))):=
   funext fun y=>funext fun H4=>propext ⟨fun⟨z1,z2,z3⟩=>⟨z1,z2,xs.length-(i+1),by omega,rfl,hlt,z3⟩,fun⟨z1,z2,_,_,_,_,z3⟩=>⟨z1,z2,z3⟩⟩
  rw[e] at tt;exact tt
 ·have e:i=xs.length:=by omega
  subst e;exact .inl ⟨⟨xs,ht,bL _⟩,pf _ _ hP⟩
section
variable {prog:Program} {w:World} {A:Around} {E:Value->Shared->Prop} {s:Shared}
end
section
variable {X:Cx} {pins:List (Addr×Obj)} {σ:St} {H1:Hp} {s1 s':Shared}
end
def vf (nt:Nat) (js:List Nat) (wi:TI) (g:TG) (tk tv:TE):TE:=fun σ H Q=>wi σ H fun J H1=>∀acc,H1 acc=none->∃W:Nat->Nat->List (Key×V)->Hp->Prop,(∃m,W 0 m [] (upd H1 acc (.dK [])))/\∀i m kvs H2,W i m kvs H2 ->
 (J.stop i H2/\Q (.ref acc) H2)\/(J.go i H2/\∀x H3,J.CN i H2 x H3->g x (List.replicate nt none++b7 js σ) H3 fun σ' H'=>(σ'.drop nt=b7 js σ/\σ'.length=(List.replicate nt (none:Option V)++b7 js σ).length)/\tk σ' H' fun y H4=>tv σ' H4 fun v H5=>
  ∃k,y=kV k/\H5 acc=some (.dK kvs)/\kvs.length<sizeLine/\∃m',m'<m/\W (i+1) m' (putK kvs k v) (upd H5 acc (.dK (putK kvs k v))))
theorem xZ {prog:Program} {w:World} {A:Around} {R:Result->Shared->Prop} {s:Shared} {kx vx target iter:Expr} {sc:Scope} {pos:Pos} {it:Value} {D:Addr} {env:Env} (Iv:Nat->Shared->Prop)
  (turn:∀n s,Iv n s->wpAny (model prog w) A (pyNext it) (fun r s1=>match r with
   | none=>R (.ok .next) s1
   | some v=>wpAny (model prog w) A (letOwnedTupleGo target it v) (fun _ s2=>wpAny (model prog w) A (assign target env v) (fun _ s3=>
     wpAny (model prog w) A (eval kx env) (fun kv s4=>wpAny (model prog w) A (eval vx env) (fun vv s5=>
     wpAny (model prog w) A (dictSet D kv vv) (fun _ s6=>∃m,m<n/\Iv m s6) (fun _ _=>False) s5) (fun _ _=>False) s4) (fun _ _=>False) s3) (fun _ _=>False) s2) (fun _ _=>False) s1) (fun _ _=>False) s)
  (n:Nat) (h:Iv n s):codeAny (model prog w) A (.compLoop (.DictComp kx vx [⟨target,iter,[],0⟩] sc pos) 0 it (.ref D) env) R s:=by
 refine codeAny_loop rfl Iv (fun n s hI=>?_) n h;show wpAny _ _ ((compTurn (.DictComp kx vx [⟨target,iter,[],0⟩] sc pos) 0 it (.ref D) env).onRaise (fun x=>do noteFrame x env; theTreesLotGoes x)) _ _ s
 refine wpAny_noted ?_;rw[compTurn_dict];refine aW (Ai (aW (oU (turn n s hI) (fun r s1 q1=>?_) fun _ _ f=>f.elim)));cases r with
 | none=>exact cF q1
 | some v=>
  refine aW (oU q1 (fun _ s2 q2=>?_) fun _ _ f=>f.elim);refine aW (oU q2 (fun _ s3 q3=>aW (wpAny_tests_nil ?_)) fun _ _ f=>f.elim);exact aW (aW (oU q3 (fun kv s4 q4=>aW (oV (oU q4 (fun vv s5 q5=>aW (Ai (oV (oU q5 (fun _ s6 q6=>cF ⟨rfl,q6⟩) fun _ _ f=>f.elim)))) fun _ _ f=>f.elim))) fun _ _ f=>f.elim))
theorem w6 {X:Cx} {kx vx iter:Expr} {tg:Expr} {g:TG} {nt:Nat} {pos:Pos} {sc:Scope} {wi:TI} {tk tv:TE} {N':List Str} {js:List Nat} {use:Option (Value->Sem Unit)} {Qc:Value->Shared->Prop} {pins:List (Addr×Obj)} {s:Shared} {σ:St} {H:Hp} {Q:VK} {kp:Pos} (hc:X.calm=true) (hi:PI X tg iter wi) (S:rQ X nt N' js sc)
  (hgt:∀fp s H,PG (oK X N' sc fp s H) tg g) (hk:∀fp s H,PE (oK X N' sc fp s H) kx tk) (hv:∀fp s H,PE (oK X N' sc fp s H) vx tv) (hs:∀x,foldedSetIterable iter X.env x=pure x) (I:Inv X pins σ H s) (h:vf nt js wi g tk tv σ H Q)
  (fin:∀(acc C:Addr) (H':Hp) (s':Shared),Inv X pins σ H' s'->fV X pins H' C->(∃m,s'.heap.Ns C m)->Q (.ref acc) H'->compPost (model X.prog X.w) X.A X.xe use Qc (.ref acc) C (.ok .next) s') :
  wpAny (model X.prog X.w) X.A (comprehension (.DictComp kx vx [⟨tg,iter,[],0⟩] sc pos) sc X.env kp newDict false (eval iter X.env) use) Qc X.xe s:=by
 refine wpAny_comprehension_free (use:=use) rfl hs S.clos S.kind S.names ?_;refine cI (hi pins s σ H _ I h) fun v s1 q1=>cI q1 fun itv s2 q2=>?_;obtain⟨it,fp,tn,J,H2,e,I2,T,st2,f2,q3⟩:=q2;subst e;refine ux ?_;obtain⟨W,⟨m0,w0⟩,turn⟩:=q3 s2.heap.objs.size I2.fresh;have I3:=I2.laid (a:=s2.heap.objs.size) (o:=.dK []) (t':=s2.toks) (fun _ _ q=>dW _ q) (bL _) (Es s2.heap I2.big)
 have lt2:∀b∈fp,b<s2.heap.objs.size:=fun b hb=>by
  obtain⟨o,ho,_⟩:=T.obj 0 _ st2 b hb;exact cz ho
 generalize e3:({ s2 with heap:=s2.heap.push { cls:=.type "dict",data:=.dict #[] },toks:=s2.toks }:Shared)=s3 at I3
 have e3':({ s2 with heap:=s2.heap.push { cls:=.type "dict",dict:=none,data:=.dict #[] } }:Shared)=s3:=e3
 have sz3:s3.heap.objs.size=s2.heap.objs.size+1:=by rw[<- e3]; exact gK ..
 have st3:tn 0 s3.heap:=T.keep 0 _ _ st2 fun b hb o ho=>by rw[<- e3]; exact dW _ ho
 have lt3:∀b∈fp,b<s3.heap.objs.size:=fun b hb=>by rw[sz3]; exact Dm (lt2 b hb)
 have f3:∀b∈fp,fV X pins (upd H2 s2.heap.objs.size (.dK [])) b:=fun b hb=>⟨by rw[aN (fP (lt2 b hb))]; exact(f2 b hb).1,(f2 b hb).2⟩
 generalize hH3:upd H2 s2.heap.objs.size (.dK [])=H3 at I3 f3 w0;refine pH ?_;generalize Xl:pushCells (s3.heap.push { cls:=.type "dict",data:=.dict #[] }) sc.names=h1;have hkp:∀b o,s3.heap.get? b=some o->h1.get? b=some o:=fun b o q=>by rw[<- Xl]; exact pushCells_keeps _ _ b o (dW _ q)
 have hns':h1.Ns s3.heap.objs.size fun _=>none:=by rw[<- Xl]; exact(Heap.Ns.new s3.heap (.type "dict")).keeps (pushCells_keeps _ _)
 have I4:Inv (oK X N' sc fp s3 H3) [] (List.replicate nt none++b7 js σ) H3 { s3 with heap:=h1,toks:=s3.toks }:=zj I3 f3 lt3 S (fun {x c} e=>by
  have:=rH sc.names (s3.heap.push { cls:=.type "dict",data:=.dict #[] }) (qt sc X.env) x c (by rw[gK]; exact e)
  rw[Xl,gK] at this
  exact this) hns' hkp
 have Zg:tn 0 h1:=T.keep 0 _ _ st3 fun b hb o ho=>hkp b o ho;have stat:∀{H':Hp},(∀b∈fp,H' b=none)->∀b∈fp,fV (oK X N' sc fp s3 H3) [] H' b:=fun hn b hb=>⟨hn b hb,fP (lt3 b hb),I4.ok.Ma b hb,.inl hb,(I4.ok.exf b hb).2,fun p hp=>absurd (show p∈([]:List (Addr×Obj)) from hp) (by simp)⟩
 have out:∀{σ':St} {H':Hp} {s':Shared},Inv (oK X N' sc fp s3 H3) [] σ' H' s'->Q (.ref s2.heap.objs.size) H'->compPost (model X.prog X.w) X.A X.xe use Qc (.ref s2.heap.objs.size) s3.heap.objs.size (.ok .next) s':=by
  intro σ' H' s' I' q';obtain⟨m,hn,_⟩:=id I'.loc;have I5:Inv X pins σ H' s':=I3.call' I'.os I'.base I'.hok I'.bare fun b hb=>⟨(f3 b hb).2.2.2.1,(f3 b hb).2.1,(f3 b hb).2.2.2.2.1,(f3 b hb).2.2.2.2.2⟩;exact fin _ _ H' s' I5 (I3.tR (bL _) I'.free) ⟨m,hn⟩ q'
 have loop:∀s4:Shared,s4={ s3 with heap:=h1,toks:=s3.toks }->codeAny (model X.prog X.w) X.A (.compLoop (.DictComp kx vx [⟨tg,iter,[],0⟩] sc pos) 0 (.ref it) (.ref s2.heap.objs.size) (compEnvC sc (cellsFrom (s3.heap.objs.size+1) sc.names (qt sc X.env)) s3.heap.objs.size X.env))
   (compPost (model X.prog X.w) X.A X.xe use Qc (.ref s2.heap.objs.size) s3.heap.objs.size) s4:=by
  rintro s4 rfl;refine xZ (fun n s'=>∃i ys H',Inv (oK X N' sc fp s3 H3) [] (List.replicate nt none++b7 js σ) H' s'/\tn i s'.heap/\(∀b∈fp,H' b=none)/\W i n ys H') ?_ m0 ⟨0,[],H3,I4,Zg,fun b hb=>(f3 b hb).1,w0⟩;rintro n s5 ⟨i,ys,H5,I5,Ro,Xg,w5⟩;rcases turn i n ys H5 w5 with⟨stop,qn⟩ | ⟨go,step⟩
  ·refine cI (T.done (oK X N' sc fp s3 H3) rfl rfl rfl hc i [] s5 _ H5 (fun _ _=>False) I5 (stat Xg) Ro stop) fun r s6 qx=>?_;obtain⟨hr,I6⟩:=qx;subst hr;exact out I6 qn
  ·refine cI (T.item (oK X N' sc fp s3 H3) rfl rfl rfl hc i [] s5 _ H5 (fun _ _=>False) I5 (stat Xg) Ro go) fun r s6 qx=>?_;obtain⟨u,hr,q6⟩:=qx;subst hr;refine cI q6 fun _ s7 qx=>?_;obtain⟨y,H7,I7,r7,y7,Rn,U7⟩:=qx;have I7':=I7.pinned (stat U7) (T.obj _ _ Rn);refine cI (hgt fp s3 H3 _ s7 _ H7 y u _ I7' r7 (step y _ y7)) fun _ s8 qx=>?_;obtain⟨σ8,H8,I8,hsh,q8⟩:=qx
   have wk:∀k v,(List.replicate nt none++b7 js σ)[k]?=some (some v)->σ8[k]?=some (some v):=fun k v e=>by
    by_cases hlt:k<nt
    ·rw[KQ (by rw[tH]; exact hlt),Jq,bu hlt] at e
     cases e
    ·rw[Ds (by rw[tH]; omega),tH,<- hsh.1,DR] at e
     rw[show nt+(k-nt)=k by omega] at e
     exact e
   refine cI (hk fp s3 H3 _ s8 _ _ _ I8 q8) fun zk s9 qx=>?_;obtain⟨yk,H9,I9,rk,q9⟩:=qx;refine cI (hv fp s3 H3 _ s9 _ _ _ I9 q9) fun zv Ag qx=>?_;obtain⟨yv,J_,Yo,rv,k,ek,ha,hz,m',hm,w10⟩:=qx;subst ek;obtain⟨z,hd,vs,rel,dd⟩:=JZ Yo.hok ha;have hz':vs.length<=sizeLine:=by rw[<- rel.length]; exact z
   have hl:(putK ys k yv).length<=sizeLine:=by have:=iC ys k yv; omega
   refine wpAny_dictSet_pairs (hsz:=hz') (Eo rk) dd fun h' Xo hs'=>?_;have he:∃q,h'.get? s2.heap.objs.size=some q:=let ⟨q,_,_,hq,_⟩:=Xo; ⟨q,hq⟩;have I11:=rF (t':=Ag.toks+1) Yo (by rw[ha]; exact True.intro) hs' he (Hz hl hd (rel.put k rv) Xo)
   refine⟨m',hm,i+1,putK ys k yv,_,(I11.iw).weak hsh.2.symm wk,T.keep _ _ _ Rn fun b hb o e=>(I11.pin (b,o) (iG _ (iG _ (dg hb e)))).1,fun b hb=>?_,w10⟩;obtain⟨o,e,d⟩:=T.obj _ _ Rn b hb;exact(I11.pin (b,o) (iG _ (iG _ (dg hb e)))).2.1
 exact codeAny_compStart_dict (loop _ rfl) (T.self X.A 0 _ _ _ Zg (loop _ rfl))
theorem Ow {X:Cx} {kx vx iter:Expr} {tg:Expr} {g:TG} {nt:Nat} {y:Str} {py pos spos:Pos} {sc:Scope} {wi:TI} {tk tv:TE} {N':List Str} {js:List Nat} {i:Nat} (hN:X.N.Nodup) (hi':X.N[i]?=some y) (hy:Loc X.env.scope y) (hc:X.calm=true) (hi:PI X tg iter wi) (S:rQ X nt N' js sc)
  (hgt:∀fp s H,PG (oK X N' sc fp s H) tg g) (hk:∀fp s H,PE (oK X N' sc fp s H) kx tk) (hv:∀fp s H,PE (oK X N' sc fp s H) vx tv) (hs:∀x,foldedSetIterable iter X.env x=pure x:=by intro _; rfl) (hw:swapsWith (.DictComp kx vx [⟨tg,iter,[],0⟩] sc pos) (some (.Name y py)) spos.line X.env=pure true:=by rfl)
  (hf:X.fn y=true\/X.env.scope.names.lookup y=some .local:=by first | exact .inl rfl | exact .inr rfl | assumption) :
  PS X (.Assign [.Name y py] (.DictComp kx vx [⟨tg,iter,[],0⟩] sc pos) spos) (z9 (vf nt js wi g tk tv) (fK i)):=by
 refine .mk ?_;intro pins s σ H D I h;rw[exec_Assign_Name_used _ _ _ _ hw];refine aW (Ai (aW ?_));refine aW (w6 hc hi S hgt hk hv hs I h fun acc C H' s' I5 fc ⟨m,hn⟩ q=>?_)
 have ho:∀b∈[C],∃o,s'.heap.get? b=some o/\∀v,o.data≠.cell v:=fun b hb=>by
  rw[gJ.mp hb];obtain⟨o,es,n,e,ed,_⟩:=hn;exact⟨o,e,fun v z=>by rw[ed] at z; cases z⟩
 have I6:=I5.pinned (fp:=[C]) (fun b hb=>by rw[gJ.mp hb]; exact fc) ho
 have hg:PG X (.Name y py) (fK i):=aJ hN hi' hy hf;show wpAny _ _ (assign (.Name y py) X.env (.ref acc)) (fun _ s''=>∃m,s''.heap.Ns C m/\∀h',Heap.SameBut C s''.heap h'->_) _ s';refine cI (hg _ s' _ H' (.ref acc) (.ref acc) _ I6 rfl q) fun _ s7 qx=>?_;obtain⟨σ7,H7,I7,q7⟩:=qx
 have pc:∀o,s'.heap.get? C=some o->s7.heap.get? C=some o/\H7 C=none:=fun o e=>by
  have:=I7.pin (C,o) (iG _ (iG _ (dg (by simp) e)))
  exact⟨this.1,this.2.1⟩
 refine⟨m,hn.at fun o e=>(pc o e).1,fun h' sb=>cF (cF ⟨σ7,H7,?_,q7⟩)⟩
 have fr:H7 C=none:=by
  obtain⟨o,es,n,e,ed,_⟩:=hn;exact(pc o e).2
 exact I7.iw.turned (it:=C) (t':=s7.toks) (fun b o hb e=>sb.extBut b o hb e) fr fc.2.1 fc.2.2.2.1 fc.2.2.2.2.1 fc.2.2.2.2.2
theorem wj {X:Cx} {kx vx iter tg:Expr} {g:TG} {nt:Nat} {pos:Pos} {sc:Scope} {wi:TI} {tk tv:TE} {N':List Str} {js:List Nat} (hc:X.calm=true) (hi:PI X tg iter wi) (S:rQ X nt N' js sc)
  (hgt:∀fp s H,PG (oK X N' sc fp s H) tg g) (hk:∀fp s H,PE (oK X N' sc fp s H) kx tk) (hv:∀fp s H,PE (oK X N' sc fp s H) vx tv) (hs:∀x,foldedSetIterable iter X.env x=pure x:=by intro _; rfl):PE X (.DictComp kx vx [⟨tg,iter,[],0⟩] sc pos) (vf nt js wi g tk tv):=by
 refine .mk ?_;intro pins s σ H Q I h;rw[arm_eval_DictComp];refine w6 (use:=none) hc hi S hgt hk hv hs I h fun acc C H' s' I5 fc ⟨m,hn⟩ q=>?_;refine⟨m,hn,fun h' sb=>?_⟩;exact⟨.ref acc,H',I5.turned (it:=C) (t':=s'.toks) (fun b o hb q=>sb.extBut b o hb q) fc.1 fc.2.1 fc.2.2.2.1 fc.2.2.2.2.1 fc.2.2.2.2.2,rfl,q⟩
theorem Inv.freeze {X:Cx} {pins:List (Addr×Obj)} {σ:St} {H:Hp} {s:Shared} {d:Addr} {kvs:List (Key×V)} (I:Inv X pins σ H s) (hd:H d=some (.dK kvs)) :
  ∃o es ep,s.heap.get? d=some o/\o.data=.dict es ep/\Inv X pins σ (upd H d (.rR o (.dK kvs))) s:=by
 obtain⟨z,y,vs,r,o,es,ep,e,c,hdt,rest⟩:=id (I.hok d _ hd);refine⟨o,es,ep,e,hdt,?_⟩;have:=rF (t':=s.toks) (h':=s.heap) (ob:=.rR o (.dK kvs)) I (by rw[hd]; exact True.intro) (Heap.SameBut.refl _ _) ⟨o,e⟩ ⟨e,z,y,vs,r,o,es,ep,e,c,hdt,rest⟩
 exact this
theorem Inv.ab7 {X:Cx} {pins:List (Addr×Obj)} {σ σ':St} {H H':Hp} {s s':Shared} {d:Addr} {kvs:List (Key×V)} {o:Obj} (I:Inv X pins σ H s) (hd:H d=some (.dK kvs)) (J:Inv X pins σ' H' s') (hf:H' d=some (.rR o (.dK kvs))) :
  Inv X pins σ' (upd H' d (.dK kvs)) s':=by
 have ne:∀b,H' b=none->b≠d:=fun b n z=>by rw[z,hf] at n; cases n
 refine⟨J.ok,J.os,J.bare,⟨J.base.keep,J.base.slot,fun b q e n x=>?_,J.base.there,fun b xs e=>?_,fun b q u e=>?_,fun b ps e=>?_⟩,J.loc,J.cell,?_,fun x c e=>?_,fun p hp=>?_,fun b u e=>?_,J.len⟩
 ·rw[aN (ne b (J.base.free b q e n x))];exact J.base.free b q e n x
 ·have:=J.base.tups b xs e;rw[aN (fun z=>by rw[z,hf] at this; cases this)]
  exact this
 ·have h1:=I.base.wZ b q u e;rw[aN (fun z=>by rw[z,hd] at h1; cases h1)]
  exact J.base.wZ b q u e
 ·obtain⟨m,h1⟩:=J.base.z8 b ps e;refine⟨m,?_⟩;rw[aN (fun z=>by rw[z,hf] at h1; cases h1)]
  exact h1
 ·rw[aN (ne _ J.free)]; exact J.free
 ·rw[aN (ne _ (J.kW x c e))]; exact J.kW x c e
 ·obtain⟨h1,h2,h3⟩:=J.pin p hp;exact⟨h1,by rw[aN (ne _ h2)]; exact h2,h3⟩
 ·have own:∀c,H' c=some (.own b)->upd H' d (.dK kvs) c=some (.own b):=fun c q=>by rw[aN (fun z=>by rw[z,hf] at q; cases q)]; exact q
  have tup:∀c xs,H' c=some (.tup xs)->upd H' d (.dK kvs) c=some (.tup xs):=fun c xs q=>by rw[aN (fun z=>by rw[z,hf] at q; cases q)]; exact q
  by_cases z:b=d
  ·rw[z,aC] at e;cases e;rw[z];exact(show cC _ _ _ _ _ _ from(show cC X.prog X.w H' s'.heap d (.rR o (.dK kvs)) from J.hok d _ hf).2).stay (fun _ _ _ q=>q) (fun c q=>by rw[aN (fun z=>by rw[z,hf] at q; cases q)]; exact q) tup
  ·rw[aN z] at e;exact(J.hok b u e).stay (fun _ _ _ q=>q) own tup
def Ud (t:TE):TE:=fun σ H Q=>t σ H fun v H'=>∃d kvs o,H d=some (.dK kvs)/\H' d=some (.rR o (.dK kvs))/\Q v (upd H' d (.dK kvs))
theorem R3 {X:Cx} {e:Expr} {t:TE} (h:PE X e t):PE X e (Ud t):=by
 refine .mk ?_;intro pins s σ H Q I hq;refine cI (h pins s σ H _ I hq) fun u s1 qx=>?_;obtain⟨v,H1,I1,r,d,kvs,o,h1,h2,q⟩:=qx;exact⟨v,_,I.ab7 h1 I1 h2,r,q⟩
def ItV (d:Addr) (o:Obj) (kvs:List (Key×V)):It:=
 ⟨fun i H=>H d=some (.rR o (.dK kvs))/\i<kvs.length,fun i H x H'=>H'=H/\∃k,kvs[i]?=some (k,x),fun i H=>H d=some (.rR o (.dK kvs))/\kvs.length<=i⟩
theorem Hx {X:Cx} {pins:List (Addr×Obj)} {σ:St} {H:Hp} {s:Shared} {d:Addr} {kvs:List (Key×V)} {o:Obj} {es:Array DictEntry} {ep:Nat} (I:Inv X pins σ H s) (hd:H d=some (.rR o (.dK kvs))) (ho:o.data=.dict es ep) :
  ∃vs,KV kvs vs/\s.heap.DictAt (d7 X.prog X.w) d vs ep:=by
 obtain⟨e,z,y,vs,r,o',es',ep',e',c,hdt,rest⟩:=(show cC X.prog X.w H s.heap d (.rR o (.dK kvs)) from I.hok d _ hd);rw[e] at e';cases e';rw[ho] at hdt;cases hdt;exact⟨vs,r,o,es,e,c,ho,rest⟩
theorem WL {kvs:List (Key×V)} {vs:List (Key×Value)} (r:KV kvs vs):∀{i:Nat} {k:Key} {x:V},kvs[i]?=some (k,x)->∃u,vs[i]?=some (k,u)/\RelV x u:=by
 induction r with
 | nil=>intro i k x h; cases h
 | @cons a b l1 l2 h1 h2 ih=>
  intro i k x h;cases i with
  | zero=>
   cases h;obtain⟨e1,e2⟩:=h1;exact⟨b.2,by rw[List.getElem?_cons_zero]; congr 1; exact Prod.ext e1.symm rfl,e2⟩
  | succ i=>exact ih h
theorem Kh {P:Program} {w:World} {K:PySem.W.Frag} {tg:Expr} {d it:Addr} {o:Obj} {kvs:List (Key×V)} {es:Array DictEntry} {ep:Nat} (ho:o.data=.dict es ep):Turn P w K tg (ItV d o kvs) [it] it (fun i h=>h.IsValIter it d i kvs.length ep) where
 mem:=by simp
 obj:=fun i h st b hb=>by
  have e:b=it:=by simpa using hb
  subst e;obtain⟨o,e,c,d⟩:=st;exact⟨o,e,fun v z=>by rw[d] at z; cases z⟩
 keep:=fun i h h' st k=>st.at fun o e=>k it (by simp) o e
 item:=by
  intro X hP hw hK hc i pins s σ H E I hf st hg;subst hP hw hK;obtain⟨hd,hi⟩:=hg;obtain⟨vs,r,da⟩:=Hx I hd ho;obtain⟨u,hu,ru⟩:=WL r (i:=i) (k:=(kvs[i]).1) (x:=(kvs[i]).2) (dN hi);obtain⟨f0,f1,f2,f3,f4,f5⟩:=hf it (by simp)
  have st2:s.heap.IsValIter it d i vs.length ep:=by rw[<- r.length]; exact st
  refine wpAny_pyNext_values_item st2 da hu fun h' st' sb=>?_;have I1:Inv X pins σ H { s with heap:=h' }:=I.turned (t':=s.toks) (fun b o hb e=>(sb.2 b hb).trans e) f0 f1 f3 f4 f5
  obtain⟨o2,e2,c2,d2⟩:=id st';refine⟨u,rfl,zp (s:={ s with heap:=h' }) e2 c2 d2 (by decide) ⟨(kvs[i]).2,H,I1,ru,⟨rfl,(kvs[i]).1,dN hi⟩,?_,fun b hb=>(hf b hb).1⟩⟩
  rw[r.length]; exact st'
 done:=by
  intro X hP hw hK hc i pins s σ H E I hf st hg;subst hP hw hK;obtain⟨hd,hi⟩:=hg;obtain⟨vs,r,da⟩:=Hx I hd ho;obtain⟨f0,f1,f2,f3,f4,f5⟩:=hf it (by simp)
  have st2:s.heap.IsValIter it d i vs.length ep:=by rw[<- r.length]; exact st
  exact wpAny_pyNext_values_end (I.ok.hd hc) st2 da (List.getElem?_eq_none_iff.mpr (by rw[<- r.length]; exact hi)) fun h' eb=>⟨rfl,I.turned (t':=s.toks) (fun b o hb e=>eb b o hb e) f0 f1 f3 f4 f5⟩
 self:=fun _ _ _ _ _ st h=>wpAny_pyIter_valiter st h
def U5 (K:PySem.W.Frag) (to:TE):TI:=fun σ H R=>to σ H fun x H1=>∃d kvs,x=.ref d/\H1 d=some (.dK kvs)/\∀o,R (ItV d o kvs) (upd H1 d (.rR o (.dK kvs)))
theorem RX {X:Cx} {K:PySem.W.Frag} {tg o:Expr} {to:TE} {apos cpos:Pos} (hK:X.K=K) (ho:PE X o to) (hbase:attributeBase o "values" X.env (eval o X.env)=eval o X.env:=by rfl) (hline:(apos.endLine==cpos.line)=true:=by rfl) :
  PI X tg (.Call (.Attribute o "values" apos) [] [] cpos) (U5 K to):=by
 refine .mk ?_;intro pins s σ H R I h;refine wpAny_Call_method0_late hbase hline (cI (ho pins s σ H _ I h) fun v s1 qx=>?_);obtain⟨x,H1,I1,r1,d,kvs,ex,hd,q⟩:=qx;subst ex;cases r1;obtain⟨hz,hsm,vs,rel,dd⟩:=JZ I1.hok hd;have tyd:tyV X.K "dict" (.ref d) H1:=.inr (.inr (.inl ⟨rfl,.inl ⟨kvs,hd⟩⟩));obtain⟨h1,h2⟩:=M9 I1 (x:=.ref d) (v:=.ref d) rfl tyd;refine⟨"dict","dict.values",PySem.F.plainAttrs_dict,PySem.F.slot_dict_values,PySem.F.type_dict_values,h1,h2,Calls.callWith_builtin rfl (PySem.evalArgs_none ?_)⟩;refine call_meetsIn PySem.F.slot_dict_values dd.typeIs PySem.F.entry_dict_values (PySem.F.args_dict_values_1 _) (meets_dict_values (d7 X.prog X.w) d hsm) ⟨⟨vs,dd⟩,?_⟩;have I2:Inv X pins σ H1 { s1 with heap:=s1.heap.push { cls:=.type "dict_values",data:=.fields #[.ref d] } }:=I1.kept (t':=s1.toks) fun b u e=>dW _ e
 obtain⟨ob,es,ep,he,hdt,I3⟩:=I2.freeze hd;obtain⟨vs',r',da⟩:=Hx I3 aC hdt;refine wpAny_pyIter_values (v:=s1.heap.objs.size) ⟨_,dw _ rfl,rfl,rfl⟩ da ?_;have hz2:(s1.heap.push { cls:=.type "dict_values",data:=.fields #[.ref d] }).objs.size=s1.heap.objs.size+1:=gK ..;refine⟨_,[_],_,_,_,rfl,I3.kept (t':=s1.toks) fun b u e=>dW _ e,Kh hdt,?_,fun b hb=>?_,q ob⟩
 ·exact⟨_,dw _ rfl,rfl,by rw[r'.length]; rfl⟩
 ·have e:=gJ.mp hb;subst e;exact I3.tR (bL _) (I3.hok.fresh (bL _))
def qy (l:List Str) (x:Str):List Str:=if l.any (· == x) then l else l++[x]
def lO (val:Nat->Str) (i:Nat):List Str:=((List.range i).map val).foldl qy []
theorem tO (val:Nat->Str) (i:Nat):lO val (i+1)=qy (lO val i) (val i):=by
 unfold lO; rw[List.range_succ,gY,List.foldl_append]; rfl
theorem JB (val:Nat->Str):∀i,(lO val i).length<=i
 | 0=>bL _
 | i+1=>by
  rw[tO]; unfold qy;have ih:=JB val i;split
  ·omega
  ·rw[cN,List.length_singleton]; omega
theorem QC (l:List Str) (v k:Str):(qy l v).any (· == k)=(l.any (· == k) || decide (k=v)):=by
 unfold qy;by_cases h:l.any (· == v)=true
 ·rw[bu h];by_cases e:k=v
  ·subst e; rw[h]; simp
  ·simp[e]
 ·rw[aZ h,List.any_append];by_cases e:k=v
  ·subst e; simp
  ·have hb:(v==k)=false:=by simpa[beq_iff_eq] using(fun h':v=k=>e h'.symm)
   simp[hb,e]
theorem Fi (l:List Str) (v:Str):(qy l v).length=if l.any (· == v) then l.length else l.length+1:=by
 unfold qy; split <;> simp
section
variable {prog:Program} {w:World} {A:Around} {R:Result->Shared->Prop} {I:Addr} {fp wr:List Addr} {G:Array GenState->Array GenState->Prop} {n:Nat} {P:Nat->Value->Prop} {St:Nat->Shared->Prop}
theorem Kw (W:WalksS prog w A.in1 I fp wr G n P St) (S:Addr) (hSf:S∉fp)
  (val:Nat->Str) (hval:∀i v,P i v->∃t,v=.str (val i) t) (hb:n+1<scanBound) :
  ∀(k i:Nat) (s:Shared),n-i=k->i<=n->St i s ->
   s.heap.SetOf (strKind prog w) S (fun k'=>(lO val i).any (· == k')) (lO val i).length ->
   (∀s',Moved (S::wr) G s s'->s'.heap.SetOf (strKind prog w) S (fun k'=>(lO val n).any (· == k')) (lO val n).length->R (.ok (.ret .none)) s') ->
   codeAny (model prog w) A (.builtin "set.update.loop" ⟨[.ref S,.ref I],[]⟩) R s:=by
 have hSw:S∉wr:=fun h=>hSf (W.sub _ h);have hsub:∀b∈wr,b∈S::wr:=fun b hb=>g8 _ hb;intro k
 induction k with
 | zero=>
  intro i s hk hi hst hS hR;have hin:i=n:=by omega
  subst hin;refine codeAny_builtin PyProof.Rows.F.entry_set_update_loop ?_;rw[Around.under_plainId PyProof.Rows.F.plain_set_update_loop _];show wpAny _ A.in1 (pyNext (.ref I) >>= _) _ _ s;refine aW (W.done s _ _ hst fun s' hm=>?_);show wpAny _ A.in1 (ret Value.none) _ _ s';refine cF (hR s' (hm.mono hsub) ?_);obtain⟨o,es,ep,t,ho,rest⟩:=hS;exact⟨o,es,ep,t,hm.heap S _ hSw ho,rest⟩
 | succ k ih=>
  intro i s hk hi hst hS hR;have hlt:i<n:=by omega
  refine codeAny_builtin PyProof.Rows.F.entry_set_update_loop ?_;rw[Around.under_plainId PyProof.Rows.F.plain_set_update_loop _];show wpAny _ A.in1 (pyNext (.ref I) >>= _) _ _ s;refine aW (W.item i s _ _ hlt hst fun v s' hP hst' hm=>?_);obtain⟨t,rfl⟩:=hval i v hP
  have hS':s'.heap.SetOf (strKind prog w) S (fun k'=>(lO val i).any (· == k')) (lO val i).length:=by
   obtain⟨o,es,ep,tb,ho,rest⟩:=hS;exact⟨o,es,ep,tb,hm.heap S _ hSw ho,rest⟩
  show wpAny _ A.in1 (holding [Value.str (val i) t] (setAdd S (.str (val i) t)) >>= _) _ _ s';refine aW (oV ?_);unfold setAdd;refine oV ?_;refine aW ((strKind prog w).pyHash (k:=val i) (strKind_is _ _ _ _) ?_);have hroom:(lO val i).length+1<scanBound:=by have:=JB val i; omega
  refine wpAny_setAddHashed_of (knd:=strKind prog w) (s:={ s' with toks:=s'.toks+1 }) (strKind_is _ _ _ _) rfl hS' hroom fun h' hsb hS2=>?_
  have hSi:h'.SetOf (strKind prog w) S (fun k'=>(lO val (i+1)).any (· == k')) (lO val (i+1)).length:=
   SetOf_congr hS2 (fun k'=>by rw[tO,QC]) (by rw[tO,Fi])
  refine cF ⟨plainId_quiet PyProof.Rows.F.plain_set_update_loop _,ih (i+1) _ (by omega) hlt (W.frame _ s' _ _ hst' (yR _) fun b hb o e=>?_) hSi fun s'' hm'' hS''=>?_⟩
  ·rw[hsb.2 b (fun h:b=S=>hSf (by rw[<- h]; exact hb))]; exact e
  ·refine hR s'' (Moved.trans W.gtrans ((hm.mono hsub).then_heap (yR _) fun b o hb e=>?_) hm'') hS'';rw[hsb.2 b (fun h:b=S=>hb (by rw[h]; exact iV))]; exact e
end
theorem IK:∀{ss:List Str} {us:List Value} {i:Nat} {v:Value},Vals (ss.map V.str) us->us[i]?=some v->∃t,v=.str (ss.getD i Str.empty) t
 | [],us,i,v,h,e=>by
  cases h;cases e
 | x::ss,us,i,v,h,e=>by
  cases h with
  | cons h1 h2=>
   cases i with
   | zero=>
    cases e;obtain⟨t,rfl⟩:=h1;exact⟨t,rfl⟩
   | succ i=>exact IK (ss:=ss) h2 e
section
variable {prog:Program} {w:World} {A:Around} {E:Value->Shared->Prop} {s:Shared}
theorem N8 {l:Addr} {items:Array Value} {ss:List Str} {Q:Value->Shared->Prop}
  (hh:A.handled=none) (hl:s.heap.IsList l items) (hi:Vals (ss.map V.str) items.toList) (hb:items.size+1<scanBound)
  (h:∀(h':Heap) (tk:Nat),h'.SetOf (strKind prog w) s.heap.objs.size (fun k'=>(lO (fun i=>ss.getD i Str.empty) items.size).any (· == k')) (lO (fun i=>ss.getD i Str.empty) items.size).length ->
   (∀b o,b<s.heap.objs.size->s.heap.get? b=some o->h'.get? b=some o)->Q (.ref s.heap.objs.size) { s with heap:=h',toks:=tk }) :
  wpAny (model prog w) A (call (.type "set") [.ref l]) Q E s:=by
 obtain⟨c,tl,hmro⟩:=PySem.F.called_set.mro;have hmade:=PySem.F.called_set.made;have hsub:=PySem.F.called_set.sub;refine wpAny_call (codeAny_of_tree ?_);show wpAny _ _ (callAny (.type "set") _) _ _ _;refine cF ⟨Code.quiet_builtin _ (by decide +kernel),codeAny_builtin PySem.F.entry_type_call ?_⟩
 rw[Around.under_plain (weight_type_call_type "set" [.ref l] []) rfl];have h1:=PySem.F.called_set.notType;have h2:=PySem.F.called_set.canCreate;have hct:=PySem.F.typeCall_set_1 (.ref l)
 repeat (any_goals (first | assumption | wp_step))
 refine codeAny_mono (code_set_new_1 (.ref l) (E:=E) (Q₁:=fun obj s₁=>∃led:Bool,obj=.ref s.heap.objs.size/\s₁={ s with heap:=s.heap.push { cls:=.type "set",dict:=none,data:=.set #[] 0 (.fresh 0 0 led) } }) fun led=>⟨led,rfl,rfl⟩) fun r s₁ hr=>?_
 cases r with
 | error e=>exact hr
 | ok fl=>
  cases fl with
  | ret obj=>
   obtain⟨led,rfl,rfl⟩:=hr;have hS:(s.heap.push { cls:=.type "set",dict:=none,data:=.set #[] 0 (.fresh 0 0 led) }).get? s.heap.objs.size=some { cls:=.type "set",dict:=none,data:=.set #[] 0 (.fresh 0 0 led) }:=dw _ rfl;have hT:Shared.TypeIs { s with heap:=s.heap.push { cls:=.type "set",dict:=none,data:=.set #[] 0 (.fresh 0 0 led) } } (.ref s.heap.objs.size) "set" := ⟨_,hS,rfl⟩
   have hli:=PySem.F.called_set.init.lookup;have hbi:=PySem.F.called_set.init.bind (.ref s.heap.objs.size)
   repeat (any_goals (first | assumption | wp_step))
   refine codeAny_mono (codeAny_call_builtin (R:=wants (fun r s₂=>r=.none/\∃h' tk,s₂={ s with heap:=h',toks:=tk } /\
     h'.SetOf (strKind prog w) s.heap.objs.size (fun k'=>(lO (fun i=>ss.getD i Str.empty) items.size).any (· == k')) (lO (fun i=>ss.getD i Str.empty) items.size).length /\
     (∀b o,b<s.heap.objs.size->s.heap.get? b=some o->h'.get? b=some o)) E) PySem.F.called_set.init.plain PySem.F.entry_set_init (check_set_init_1 hT ?_)) fun r₂ s₂ hr₂=>?_
   ·obtain⟨ol,hol,hcl,nl,hdl⟩:=hl;obtain⟨ocls,odict,odata,oslots⟩:=ol;simp only at hcl hdl;subst hcl; subst hdl;have hol':(s.heap.push { cls:=.type "set",dict:=none,data:=.set #[] 0 (.fresh 0 0 led) }).get? l=some { cls:=.type "list",dict:=odict,data:=.seq items nl,slots:=oslots }:=dW _ hol;have hsls:=PySem.F.sub_list_set;have hslf:=PySem.F.sub_list_frozenset;have hne:(Value.type "list" == Value.type "dict")=false:=by decide
    have hl1:(s.heap.push { cls:=.type "set",dict:=none,data:=.set #[] 0 (.fresh 0 0 led) }).IsList l items:=⟨_,hol',rfl,nl,rfl⟩;unfold Builtin.«set.__init__» noKeywords Builtin.Frozenset.updateFrom;generalize hPI:pyIter=PI
    wp_walk
    subst hPI;refine Gz hl1 ?_;refine aW (wpAny_runValue ?_);have hlS:l<s.heap.objs.size:=cz hol;have hh3:A.in1.in1.in1.handled=none:=by simp[hh]
    have hneI:l≠(s.heap.push { cls:=.type "set",dict:=none,data:=.set #[] 0 (.fresh 0 0 led) }).objs.size:=by
     rw[gK]; exact fP (Dm hlS)
    have hSf:s.heap.objs.size∉[(s.heap.push { cls:=.type "set",dict:=none,data:=.set #[] 0 (.fresh 0 0 led) }).objs.size,l]:=by
     rw[gK]; simp only[bI,gJ,dD,or_false,not_or];exact⟨fP (Dk _),Dh hlS⟩
    have hval:∀(i:Nat) (v:Value),items[i]?=some v->∃t,v=.str ((fun i=>ss.getD i Str.empty) i) t:=fun i v hv=>IK hi (by rw[Array.getElem?_toList]; exact hv)
    refine Kw ((Walks.list hh3 _ l hneI items).toS) s.heap.objs.size
     hSf (fun i=>ss.getD i Str.empty) hval hb (items.size-0) 0 _ (by omega) (gw _)
     ⟨⟨_,dw _ rfl,rfl,rfl⟩,(hl1.push _)⟩ ?hS0 ?hR
    case hS0=>
     have hget:((s.heap.push { cls:=.type "set",dict:=none,data:=.set #[] 0 (.fresh 0 0 led) }).push { cls:=.type "list_iterator",data:=.fields #[.ref l,.int 0 0] }).get? s.heap.objs.size
       = some { cls:=.type "set",dict:=none,data:=.set #[] 0 (.fresh 0 0 led) }:=dW _ hS
     exact PyProof.Rows.SetOf_congr ((PyProof.Rows.setObjOf_fresh (knd:=strKind prog w) led).setOf hget (by unfold scanBound; omega)) (fun _=>rfl) rfl
    case hR=>
     intro s' hm hS';obtain⟨h',g',d',tk',os'⟩:=s';have eg:g'=s.gens:=hm.gens;have ed:d'=s.drawn:=hm.drawn;have eo:os'=s.os:=hm.os;subst eg; subst ed; subst eo;show wpAny _ _ _ _ _ _;refine cF ?_;show wpAny _ _ (ret Value.none) _ _ _;refine cF ⟨rfl,h',tk',rfl,hS',fun b o hb e=>?_⟩;have hb1:b≠s.heap.objs.size:=fP hb
     have hb2:b≠(s.heap.push { cls:=.type "set",dict:=none,data:=.set #[] 0 (.fresh 0 0 led) }).objs.size:=by
      rw[gK]; exact fP (Dm hb)
     exact hm.heap b o (by simp only[bI,gJ,dD,or_false,not_or]; exact⟨hb1,hb2⟩) (dW _ (dW _ e))
   ·cases r₂ with
    | error e=>exact hr₂
    | ok fl₂=>
     cases fl₂ with
     | ret r=>
      obtain⟨rfl,h',tk,rfl,hS',hk'⟩:=hr₂
      repeat (any_goals (first | assumption | wp_step))
      exact h _ _ hS' hk'
     | _=>exact hr₂.elim
  | _=>exact hr.elim
end
def XC (a:Addr) (n:Nat):HO:=.ext fun h=>∃o es ep t,h.get? a=some o/\o.ExactSet/\o.data=.set es ep t/\t.fits es.size=true/\es.size=n
def qm (ss:List Str):Nat:=(lO (fun i=>ss.getD i Str.empty) ss.length).length
theorem zP {X:Cx} (hc:X.calm=true):cZ X (.type "set") (fun vs H Q=>∃(l:Addr) (ss:List Str),vs=[.ref l]/\H l=some (.lst (ss.map V.str))/\ss.length<=1000/\∀p H',H p=none->aP H H'->H' p=some (XC p (qm ss))->Q (.ref p) H'):=by
 refine .mk ?_;intro pins s σ H vs us Q I r h;obtain⟨l,ss,rfl,hl,hz,q⟩:=h;obtain⟨u,rfl,ru⟩:=r.one;cases ru;obtain⟨_,its,n,rv,e⟩:=I.hok l _ hl;have hn:=rv.length;rw[bZ] at hn;refine N8 (ss:=ss) (items:=its.toArray) (I.ok.hd hc) ⟨_,e,rfl,_,rfl⟩ (by simpa using rv) (by rw[fu,<- hn]; unfold scanBound; omega) fun h' tk hS hk=>?_
 have hf:=I.hok.fresh (bL s.heap.objs.size);have hsz:its.toArray.size=ss.length:=by rw[fu,<- hn]
 rw[hsz] at hS;refine⟨.ref s.heap.objs.size,_,I.laid (a:=s.heap.objs.size) (o:=XC s.heap.objs.size (qm ss)) (t':=tk) (fun b o q=>hk b o (cz q) q) (bL _) ?_,rfl,q _ _ hf (aQ hf _) aC⟩;obtain⟨o,es,ep,t,h1,h2,h3,h4,h5,h6,h7,h8⟩:=hS;refine⟨⟨o,es,ep,t,h1,h2,h3,h7,h8⟩,⟨o,h1⟩,fun g1 g2 z k=>?_⟩;obtain⟨o',es',ep',t',a1,a2⟩:=z;exact⟨o',es',ep',t',k _ a1,a2⟩
theorem zQ {X:Cx}:cZ X (.builtin "len") (fun vs H Q=>∃(p:Addr) (n:Nat),vs=[.ref p]/\H p=some (XC p n)/\n<=1000/\Q (.int n) H):=by
 refine .mk ?_;intro pins s σ H vs us Q I r h;obtain⟨p,n,rfl,hp,hn,q⟩:=h;obtain⟨u,rfl,ru⟩:=r.one;cases ru;obtain⟨o,es,ep,t,h1,h2,h3,h4,h5⟩:=(show ∃o es ep t,s.heap.get? p=some o/\o.ExactSet/\o.data=.set es ep t/\t.fits es.size=true/\es.size=n from(I.hok p _ hp).1);refine call_len_set h1 h2 h3 h4 (by rw[h5]; omega) ?_
 rw[h5];exact⟨.int n,H,I.tok _,⟨_,rfl⟩,q⟩
theorem zx:∀(l acc:List Str),(l.foldl qy acc).length<=acc.length+l.length/\((l.foldl qy acc).length=acc.length+l.length↔l.Nodup/\∀x∈l,x∉acc)
 | [],acc=>⟨bL _,⟨fun _=>⟨List.nodup_nil,fun x h=>by cases h⟩,fun _=>rfl⟩⟩
 | y::l,acc=>by
  obtain⟨h1,h2⟩:=zx l (qy acc y);have e:((y::l).foldl qy acc)=l.foldl qy (qy acc y):=rfl;rw[e,gZ];have hl:=Fi acc y;by_cases c:acc.any (· == y)=true
  ·rw[bu c] at hl
   have hy:y∈acc:=by
    obtain⟨z,hz,ez⟩:=List.any_eq_true.mp c;rw[<- beq_iff_eq.mp ez]; exact hz
   refine⟨by omega,⟨fun z=>by omega,fun z=>absurd hy (z.2 y iV)⟩⟩
  ·rw[aZ c] at hl;have hy:y∉acc:=fun h=>c (List.any_eq_true.mpr ⟨y,h,beq_self_eq_true y⟩);have ea:qy acc y=acc++[y]:=aZ c;refine⟨by omega,⟨fun z=>?_,fun z=>?_⟩⟩
   ·obtain⟨n1,n2⟩:=h2.mp (by omega)
    rw[ea] at n2;refine⟨jm.mpr ⟨fun hm=>n2 y hm (by simp),n1⟩,fun x hx=>?_⟩
    rcases bI.mp hx with w | w
    ·rw[w]; exact hy
    ·exact fun hm=>n2 x w (by simp[hm])
   ·obtain⟨n1,n2⟩:=z;obtain⟨m1,m2⟩:=jm.mp n1
    have:=h2.mpr ⟨m2,fun x hx=>by
     rw[ea];intro hm;rcases fZ.mp hm with w | w
     ·exact n2 x (g8 _ hx) w
     ·rw[gJ.mp w] at hx; exact m1 hx⟩
    omega
theorem oJ (ss:List Str):qm ss<=ss.length/\(qm ss<ss.length↔¬ss.Nodup):=by
 have e:(List.range ss.length).map (fun i=>ss.getD i Str.empty)=ss:=by
  apply List.ext_getElem
  ·simp
  ·intro i h1 h2;simp[lC,h2]
 have d:qm ss=(ss.foldl qy []).length:=by unfold qm lO; rw[e]
 obtain⟨h1,h2⟩:=zx ss [];rw[<- d] at h1 h2;simp only[vX,Nat.zero_add] at h1 h2;refine⟨h1,⟨fun z n=>?_,fun z=>?_⟩⟩
 ·have:=h2.mpr ⟨n,fun x _=>by simp⟩; omega
 ·rcases Nat.lt_or_ge (qm ss) ss.length with w | w
  ·exact w
  ·exact absurd (h2.mp (by omega)).1 z
section
variable {prog:Program} {w:World} {A:Around} {E:Value->Shared->Prop} {s:Shared}
end
structure abL (H:Hp) (xs:List V) (kvs:List (PyData×V)):Prop where
 n:xs.length=kvs.length
 p:∀(i:Nat) (x:V) (q:PyData×V),xs[i]?=some x->kvs[i]?=some q->∃t y,x=.ref t/\H t=some (.tup [y,q.2])/\aaW H q.1 y
theorem nZ:plainId "dict.update.loop" = true:=by decide +kernel
theorem yF:entryFor table "dict.update.loop" = some Builtin.«dict.update.loop»:=entryFor_of_tree (by kernel_rfl)
section
variable {X:Cx} {pins:List (Addr×Obj)} {σ:St}
end
section
variable {X:Cx}
end
def ZKL (K:PySem.W.Frag) (g:TG) (tb:TS) (D:Ends) (σ:St) (vs:List V) (H1:Hp):Prop:=∃a b,vs=[.ref a,.ref b]/\(∃xs,cg K H1 a xs)/\(∃ys,cg K H1 b ys)/\∃W:Nat->Nat->St->Hp->Prop,(∃m,W 0 m σ H1)/\∀i m σ H,W i m σ H ->
 ((QJ K a b).stop i H/\D.nx σ H)\/((QJ K a b).go i H/\∃N:St->Hp->Prop,(∀σ' H',N σ' H'->∃m',m'<m/\W (i+1) m' σ' H')/\∀x H',(QJ K a b).CN i H x H'->g x σ H' fun σ2 H2=>tb { D with nx:=N,ct:=N,bk:=D.nx } σ2 H2)
theorem Kp {K:PySem.W.Frag} {ta:TA} {g:TG} {tb:TS} {D:Ends} {σ:St} {H:Hp}:CW (JS K ta) g tb D σ H=ta σ H (ZKL K g tb D σ):=rfl
theorem ZKL.of {K:PySem.W.Frag} {g:TG} {tb:TS} {D:Ends} {σ:St} {H:Hp} {a b:Addr} {xs ys:List V} (ha:H a=some (.lst xs)) (hb:H b=some (.lst ys)) (hn:xs.length=ys.length) (Pv:Nat->St->Hp->Prop) (h0:Pv 0 σ H) (hl:∀i σ H',i<=xs.length->Pv i σ H'->H' a=some (.lst xs)/\H' b=some (.lst ys))
  (hs:∀i x y σ H p,xs[i]?=some x->ys[i]?=some y->Pv i σ H->H p=none->g (.ref p) σ (upd H p (.tup [x,y])) fun σ2 H2=>tb { D with nx:=Pv (i+1),ct:=Pv (i+1),bk:=D.nx } σ2 H2) (hd:∀σ H,Pv xs.length σ H->D.nx σ H):ZKL K g tb D σ [.ref a,.ref b] H:=by
 refine⟨a,b,rfl,⟨xs,cg.of ha⟩,⟨ys,cg.of hb⟩,fun i m σ H=>m=xs.length-i/\i<=xs.length/\Pv i σ H,⟨_,rfl,gw _,h0⟩,?_⟩;rintro i m σ H ⟨rfl,hi,p⟩;have q:cg K H a xs:=cg.of (hl i σ H hi p).1;have q2:cg K H b ys:=cg.of (hl i σ H hi p).2;by_cases hlt:i<xs.length
 ·have hlt':i<ys.length:=by omega
  refine .inr ⟨⟨xs,ys,xs[i],ys[i],q,q2,dN hlt,dN hlt'⟩,Pv (i+1),fun σ' H' p'=>⟨xs.length-(i+1),by omega,rfl,hlt,p'⟩,fun x H' y=>?_⟩
  obtain⟨t,z,z',ht,rfl,rfl,hz,hz'⟩:=y;exact hs i z z' σ H t (hz xs q) (hz' ys q2) p ht
 ·have e:i=xs.length:=by omega
  subst e;exact .inl ⟨⟨xs,ys,q,q2,.inl rfl⟩,hd σ H p⟩
theorem pC:typeLookup (.type "zip") "__getattr__" = pure none:=by rw[typeLookup_type,builtinLookup_eq_fast]; kernel_rfl
theorem jF:entryFor table "zip.__getattribute__" = some Builtin.«object.__getattribute__»:=
 entryFor_alias (id':="object.__getattribute__") (by kernel_rfl) (by decide +kernel) (by decide +kernel) (by kernel_rfl)
theorem Pk:typeLookup (.type "zip") "keys" = pure none:=by rw[typeLookup_type,builtinLookup_eq_fast]; kernel_rfl
theorem iW (a:Addr) (xs:Array Value) (sl:Array (Option Value)) (name:Str) (u:Tok) (hmiss:typeLookup (.type "zip") name=pure none) (hname:(["__module__","__name__","__qualname__","__doc__","__annotations__"]:List Str).contains name=false) (hsz:name.length+100<=sizeLine:=by size_fits) :
  Meets (Builtin.«object.__getattribute__» ⟨[.ref a,.str name u],[]⟩) (fun A R s=>s.heap.get? a=some { cls:=.type "zip",dict:=none,data:=.fields xs,slots:=sl }/\raisesAttr (.ref a) name A R s):=
 Meets.of_wp fun prog w A R s hs=>by
  obtain⟨hp,g,d,tk,os⟩:=s;obtain⟨hx,hs⟩:=hs;have hT:(⟨hp,g,d,tk,os⟩:Shared).TypeIs (.ref a) "zip" := ⟨_,hx,rfl⟩;unfold Builtin.«object.__getattribute__»
  repeat (any_goals (first | assumption | wp_step))
  simp only[hname,GC,if_false]
  repeat (any_goals (first | assumption | wp_step))
  exact wpAny_raiseAttrError hs.1 hs.2 (attrMsg_fits (by decide +kernel) hsz)
section
variable {prog:Program} {w:World} {A:Around} {E:Value->Shared->Prop} {s:Shared}
theorem Hn {a:Addr} {xs:Array Value} {sl:Array (Option Value)} {Q:Option Value->Shared->Prop} (hx:s.heap.get? a=some { cls:=.type "zip",dict:=none,data:=.fields xs,slots:=sl }) (hA:A.handled=none)
  (h:∀h' tk,(∀b o,s.heap.get? b=some o->h'.get? b=some o)->Q none { s with heap:=h',toks:=tk }):wpAny (model prog w) A (getAttr? (.ref a) "keys") Q E s:=by
 obtain⟨hp,g,d,tk,os⟩:=s;have hT:∀tk',(⟨hp,g,d,tk',os⟩:Shared).TypeIs (.ref a) "zip" := fun _=>⟨_,hx,rfl⟩;have f1:=sub_AttributeError;have f3:=F.slot_zip_getattribute.lookup;have f4:=F.slot_zip_getattribute.bind (.ref a);have f5:=pC;unfold getAttr? getAttrBy? getAttrBy
 repeat (any_goals (first | assumption | exact hT _ | ((with_reducible show wpAny _ _ (call (Value.builtin "zip.__getattribute__") _ _) _ _ _); refine call_meets F.slot_zip_getattribute (hT _) jF (F.args_zip_getattribute_2 _ _) (iW a xs sl "keys" _ Pk (by decide +kernel)) ⟨hx,hA,fun h' tk' e hx'=>?_⟩) | wp_step))
 obtain⟨t',u',he⟩:=hx'.there;show wpAny _ _ (getattributeRaised _ _ _ _ _ _ _) _ _ _;unfold getattributeRaised
 repeat (any_goals (first | assumption | wp_step))
 exact h _ _ fun b o e=>hx'.keeps b o e
end
abbrev yC (h:Heap) (z TI TO t:Addr) (b:Bool):Prop:=
 h.get? z=some { cls:=.type "zip",dict:=none,data:=.fields #[rawInt t,.bool b,.bool false,.ref TI,.ref TO],slots:=#[] }
section
variable {prog:Program} {w:World} {A:Around} {E:Value->Shared->Prop} {s:Shared}
theorem Io {z TI TO t:Addr} {b:Bool} {Q:Bool->Shared->Prop} (hz:yC s.heap z TI TO t b) (ht:∃o,s.heap.get? t=some o) (q:∀h',yC h' z TI TO t true->Heap.SameBut z s.heap h'->Q false { s with heap:=h' }) :
  wpAny (model prog w) A (Builtin.SmallTypes.ownedTupleIsFree (.ref z)) Q E s:=by
 obtain⟨o,ho⟩:=ht;unfold Builtin.SmallTypes.ownedTupleIsFree;refine aW (iU hz rfl (x:=rawInt t) rfl ?_);show wpAny _ _ (loadIfAlive ((t:Int).toNat) >>= _) _ _ _;rw[tu];refine aW (PySem.W.kdx_alive ho ?_);simp only[Option.isNone_some,GC,if_false];refine aW (iU hz rfl (x:=.bool b) rfl ?_);cases b with
 | true=>
  rw[aZ (by decide)]
  exact cF (q s.heap hz (Heap.SameBut.refl _ _))
 | false=>
  rw[bu (by decide)]
  refine aW (GD hz (by simp) fun hA zA sA=>?_)
  exact cF (q hA zA sA)
structure Yj (z i1 i2:Addr) (f1 f2:List Addr):Prop where
 a4:i1≠z
 a5:i2≠z
 b1:z∉f1
 b2:z∉f2
 b5:i1∉f2
 b6:i2∉f1
theorem Rb {z TI TO t i1 i2:Addr} {f1 f2:List Addr} {n1 n2 k:Nat} {P1 P2:Nat->Value->Prop} {S1 S2:Nat->Heap->Prop} {b:Bool} {Q:Value->Shared->Prop} (Z:Yj z i1 i2 f1 f2) (D1:Draws prog w A i1 f1 n1 P1 S1) (D2:Draws prog w A i2 f2 n2 P2 S2)
  (hz:yC s.heap z TI TO t b) (ht:∃o,s.heap.get? t=some o) (hi:IsPair s.heap TI (.ref i1) (.ref i2)) (s1:S1 k s.heap) (s2:S2 k s.heap) (k1:k<n1) (k2:k<n2)
  (q:∀x y h' tk,P1 k x->P2 k y->yC h' z TI TO t true->S1 (k+1) h'->S2 (k+1) h'->IsPair h' s.heap.objs.size x y->(∀c o,c≠z->c≠i1->c≠i2->s.heap.get? c=some o->h'.get? c=some o)->Q (.ref s.heap.objs.size) { s with heap:=h',toks:=tk }) :
  wpAny (model prog w) A (Builtin.«zip.__next__» ⟨[.ref z],[]⟩) (fun fin s'=>∃v,fin=.done (.ret v)/\Q v s') E s:=by
 show wpAny _ _ (field (.ref z) 2 >>= _) _ _ _; refine aW (iU hz rfl (x:=.bool false) rfl ?_);show wpAny _ _ (field (.ref z) 3 >>= _) _ _ _; refine aW (iU hz rfl (x:=.ref TI) rfl (aW (qT hi rfl ?_)));show wpAny _ _ (Builtin.SmallTypes.ownedTupleIsFree (.ref z) >>= _) _ _ _;refine aW (Io hz ht fun hA zA sA=>?_);simp only[GC,if_false];refine aW ?_;rw[<- Array.forIn_toList];simp only[Dj,Dy];refine aW (aW (oV ?_)); show wpAny _ _ (Builtin.SmallTypes.nextOf (.ref i1) >>= _) _ _ _;refine aW (D1.item k _ _ _ k1 (D1.frame _ _ _ s1 (Cz sA Z.b1)) fun x hB tB pB stb sB=>cF ?_);have uB:S2 k hB:=D2.frame _ _ _ (D2.frame _ _ _ s2 (Cz sA Z.b2)) (Cz sB Z.b5);refine cF (aW (aW (oV ?_))); show wpAny _ _ (Builtin.SmallTypes.nextOf (.ref i2) >>= _) _ _ _;refine aW (D2.item k _ _ _ k2 uB fun y hD tD pD std sD=>cF ?_);refine cF (cF (aW (wpAny_newTuple (hsz:=lK (aY (by decide:2<=1000))) ?_)))
 have zD:yC hD z TI TO t true:=sD.extBut _ _ Z.a5.symm (sB.extBut _ _ Z.a4.symm zA);have size:hD.objs.size=s.heap.objs.size:=by rw[sD.1,sB.1,sA.1]
 have up:∀c o,hD.get? c=some o->(hD.push { cls:=.type "tuple",data:=.seq #[x,y] }).get? c=some o:=fun c o e=>dW _ e;have kB:∀c o,c≠z->c≠i1->c≠i2->s.heap.get? c=some o->hD.get? c=some o:=fun c o n1 n3 n4 e=>sD.extBut _ _ n4 (sB.extBut _ _ n3 (sA.extBut _ _ n1 e));have u1:S1 (k+1) hD:=D1.frame _ _ _ stb (Cz sD Z.b6);have tJ:(hD.push { cls:=.type "tuple",data:=.seq #[x,y] }).get? hD.objs.size=some { cls:=.type "tuple",data:=.seq #[x,y] }:=dw _ rfl;refine cF ⟨_,rfl,?_⟩;show Q (.ref hD.objs.size) _;rw[size] at tJ ⊢;exact q x y _ tD pB pD (up _ _ zD) (D1.frame _ _ _ u1 fun c hc o e=>up c o e) (D2.frame _ _ _ std fun c hc o e=>up c o e) tJ fun c o n1 n3 n4 e=>up c o (kB c o n1 n3 n4 e)
theorem M3 {z TI TO t i1 i2:Addr} {f1 f2:List Addr} {n1 n2:Nat} {P1 P2:Nat->Value->Prop} {S1 S2:Nat->Heap->Prop} {b:Bool} {Q:Fin->Shared->Prop} (Z:Yj z i1 i2 f1 f2) (D1:Draws prog w A i1 f1 n1 P1 S1) (D2:Draws prog w A i2 f2 n2 P2 S2)
  (hz:yC s.heap z TI TO t b) (ht:∃o,s.heap.get? t=some o) (hi:IsPair s.heap TI (.ref i1) (.ref i2)) (s1:S1 n1 s.heap)
  (q:∀h' e,(∀c o,c≠z->c≠i1->c≠i2->s.heap.get? c=some o->h'.get? c=some o)->(∃o,h'.get? e=some o/\o.cls=.type "StopIteration")->∀tk,E (.ref e) { s with heap:=h',toks:=tk }) :
  wpAny (model prog w) A (Builtin.«zip.__next__» ⟨[.ref z],[]⟩) Q E s:=by
 show wpAny _ _ (field (.ref z) 2 >>= _) _ _ _; refine aW (iU hz rfl (x:=.bool false) rfl ?_);show wpAny _ _ (field (.ref z) 3 >>= _) _ _ _; refine aW (iU hz rfl (x:=.ref TI) rfl (aW (qT hi rfl ?_)));show wpAny _ _ (Builtin.SmallTypes.ownedTupleIsFree (.ref z) >>= _) _ _ _;refine aW (Io hz ht fun hA zA sA=>?_);simp only[GC,if_false];refine aW ?_;rw[<- Array.forIn_toList];simp only[Dj,Dy];refine aW (aW (oV ?_)); show wpAny _ _ (Builtin.SmallTypes.nextOf (.ref i1) >>= _) _ _ _;refine aW (D1.done _ _ _ (D1.frame _ _ _ s1 (Cz sA Z.b1)) fun hB x sB hx=>?_);exact q hB x (fun c o m1 m3 _ e=>sB _ _ m3 (sA.extBut _ _ m1 e)) hx _
theorem YH {z TI TO t i1 i2:Addr} {f1 f2:List Addr} {n1 n2 k:Nat} {P1 P2:Nat->Value->Prop} {S1 S2:Nat->Heap->Prop} {b:Bool} {Q:Option Value->Shared->Prop} (Z:Yj z i1 i2 f1 f2) (D1:Draws prog w A.in1 i1 f1 n1 P1 S1) (D2:Draws prog w A.in1 i2 f2 n2 P2 S2)
  (hz:yC s.heap z TI TO t b) (ht:∃o,s.heap.get? t=some o) (hi:IsPair s.heap TI (.ref i1) (.ref i2)) (s1:S1 k s.heap) (s2:S2 k s.heap) (k1:k<n1) (k2:k<n2)
  (q:∀x y h' tk,P1 k x->P2 k y->yC h' z TI TO t true->S1 (k+1) h'->S2 (k+1) h'->IsPair h' s.heap.objs.size x y->(∀c o,c≠z->c≠i1->c≠i2->s.heap.get? c=some o->h'.get? c=some o)->Q (some (.ref s.heap.objs.size)) { s with heap:=h',toks:=tk }) :
  wpAny (model prog w) A (pyNext (.ref z)) Q E s:=by
 have ty:s.TypeIs (.ref z) "zip" := ⟨_,hz,rfl⟩;unfold pyNext;refine aW (wpAny_attempt (Dq (name:=Str.ofString "__next__") ty F.slot_zip_next (xJ F.slot_zip_next ty F.entry_zip_next ?_ (F.args_zip_next_1 _))));exact Rb Z D1 D2 hz ht hi s1 s2 k1 k2 fun x y h' tk p1 p2 v1 v2 v3 v4 v5=>cF (q x y h' tk p1 p2 v1 v2 v3 v4 v5)
theorem Vs {z TI TO t i1 i2:Addr} {f1 f2:List Addr} {n1 n2:Nat} {P1 P2:Nat->Value->Prop} {S1 S2:Nat->Heap->Prop} {b:Bool} {Q:Option Value->Shared->Prop} (Z:Yj z i1 i2 f1 f2) (D1:Draws prog w A.in1 i1 f1 n1 P1 S1) (D2:Draws prog w A.in1 i2 f2 n2 P2 S2)
  (hz:yC s.heap z TI TO t b) (ht:∃o,s.heap.get? t=some o) (hi:IsPair s.heap TI (.ref i1) (.ref i2)) (s1:S1 n1 s.heap)
  (q:∀h' tk,(∀c o,c≠z->c≠i1->c≠i2->s.heap.get? c=some o->h'.get? c=some o)->Q none { s with heap:=h',toks:=tk }):wpAny (model prog w) A (pyNext (.ref z)) Q E s:=by
 have ty:s.TypeIs (.ref z) "zip" := ⟨_,hz,rfl⟩;unfold pyNext;refine aW (wpAny_attempt (Dq (name:=Str.ofString "__next__") ty F.slot_zip_next (xJ F.slot_zip_next ty F.entry_zip_next ?_ (F.args_zip_next_1 _))));refine M3 Z D1 D2 hz ht hi s1 fun h' e k hx tk=>?_;obtain⟨o,g,c⟩:=hx;exact aW (wpAny_isInstance (T:="StopIteration") (b:=true) ⟨o,g,c⟩ isSubtype_stop (cF (q _ tk k)))
end
def jo (acc:List (Key×V)) (kvs:List (Key×V)):List (Key×V):=kvs.foldl (fun a p=>putK a p.1 p.2) acc
structure ZS (z TI TO i1 i2 a b:Addr) (i:Nat) (h:Heap):Prop where
 st:(IsZip h z TI TO .none/\∃x y,IsPair h TO x y)\/∃t fl,yC h z TI TO t fl/\(∃o,h.get? t=some o)/\t≠z/\t≠i1/\t≠i2
 p:IsPair h TI (.ref i1) (.ref i2)
 l:h.IsListIter i1 a i
 r:h.IsListIter i2 b i
structure Zn (z TI TO i1 i2:Addr):Prop where
 n1:TI≠z
 n2:TO≠z
 n3:TI≠TO
 n4:i1≠z
 n5:i2≠z
 n6:TO≠i1
 n7:TO≠i2
 n8:i1≠i2
 n9:TI≠i1
 n10:TI≠i2
section
variable {X:Cx} {pins:List (Addr×Obj)} {σ:St} {z TI TO i1 i2 a b:Addr}
theorem ZS.keep {i:Nat} {h h':Heap} (S:ZS z TI TO i1 i2 a b i h) (k:∀c o,h.get? c=some o->h'.get? c=some o):ZS z TI TO i1 i2 a b i h':=by
 obtain⟨st,p,l,r⟩:=S;refine⟨?_,k _ _ p,l.at fun o e=>k _ _ e,r.at fun o e=>k _ _ e⟩;rcases st with⟨g,x,y,e⟩ | ⟨t,fl,g,⟨o,e⟩,n⟩
 ·exact .inl ⟨k _ _ g,x,y,k _ _ e⟩
 ·exact .inr ⟨t,fl,k _ _ g,⟨o,k _ _ e⟩,n⟩
theorem Q6 {H:Hp} {s:Shared} {A:Around} {E:Value->Shared->Prop} {xs ys:List V} {i:Nat} {x y:V} {Q:Option Value->Shared->Prop} (N:Zn z TI TO i1 i2) (I:Inv X pins σ H s) (hh:A.handled=none) (ha:H a=some (.lst xs)) (hb:H b=some (.lst ys)) (S:ZS z TI TO i1 i2 a b i s.heap)
  (hf:∀c∈[z,TI,TO,i1,i2],fV X pins H c) (hx:xs[i]?=some x) (hy:ys[i]?=some y)
  (q:∀t u v s1,RelV x u->RelV y v->Inv X pins σ H s1->IsPair s1.heap t u v->ZS z TI TO i1 i2 a b (i+1) s1.heap->Q (some (.ref t)) s1):wpAny (model X.prog X.w) A (pyNext (.ref z)) Q E s:=by
 obtain⟨us,ru,pu⟩:=kL.inv I (cg.of ha);obtain⟨vs,rv,pv⟩:=kL.inv I (cg.of hb);obtain⟨u,hu,ru'⟩:=ru.get hx;obtain⟨v,hv,rv'⟩:=rv.get hy;have na:∀c∈[z,TI,TO,i1,i2],a≠c:=fun c hc=>kL.ne I (cg.of ha) (hf c hc);have nb:∀c∈[z,TI,TO,i1,i2],b≠c:=fun c hc=>kL.ne I (cg.of hb) (hf c hc);have hh1:A.in1.handled=none:=hh;have l1:i<us.toArray.size:=by have:=(iT.mp hu).1; simpa using this
 have l2:i<vs.toArray.size:=by have:=(iT.mp hv).1; simpa using this
 have eu:∀{u':Value},us.toArray[i]?=some u'->u'=u:=fun {u'} hu'=>by
  have:us[i]?=some u':=by simpa using hu'
  rw[hu] at this; exact(Option.some.inj this).symm
 have ev:∀{u':Value},vs.toArray[i]?=some u'->u'=v:=fun {u'} hu'=>by
  have:vs[i]?=some u':=by simpa using hu'
  rw[hv] at this; exact(Option.some.inj this).symm
 obtain⟨st,p,l,r⟩:=S;have fk:∀c∈[z,TO,i1,i2],fV X pins H c:=fun c hc=>hf c (by simp only[bI,dD,or_false] at hc ⊢; rcases hc with h | h | h | h <;> simp[h])
 rcases st with⟨g,xo,yo,e⟩ | ⟨t,fl,g,e,nt⟩
 ·have Z:Vg z TI TO i1 i2 [i1,a] [i2,b]:=⟨N.n1,N.n2,N.n3,N.n4,N.n5,N.n6,N.n7,N.n8,by simp; exact⟨N.n4.symm,(na z (by simp)).symm⟩,by simp; exact⟨N.n5.symm,(nb z (by simp)).symm⟩,by simp; exact⟨N.n6,(na TO (by simp)).symm⟩,by simp; exact⟨N.n7,(nb TO (by simp)).symm⟩,by simp; exact⟨N.n8,(nb i1 (by simp)).symm⟩,by simp; exact⟨N.n8.symm,(na i2 (by simp)).symm⟩⟩
  have lz:z<s.heap.objs.size:=cz g;have li1:i1<s.heap.objs.size:=by obtain⟨o,e,_⟩:=l; exact cz e
  have li2:i2<s.heap.objs.size:=by obtain⟨o,e,_⟩:=r; exact cz e
  refine MJ Z (kL.dr hh1 (na i1 (by simp)) us.toArray) (kL.dr hh1 (nb i2 (by simp)) vs.toArray) g p e (show _/\_ from⟨l,pu⟩) (show _/\_ from⟨r,pv⟩) l1 l2 fun u' v' h' tk hu' hv' z1 z2 z3 z4 z5 z6 kk=>?_
  cases eu hu';cases ev hv';have I1:Inv X pins σ H { s with heap:=h',toks:=tk }:=I.lE (fp:=[z,TO,i1,i2]) (fun c o hc q=>kk c o (fun w=>hc (by simp[w])) (fun w=>hc (by simp[w])) (fun w=>hc (by simp[w])) (fun w=>hc (by simp[w])) q) fk
  exact q _ _ _ _ ru' rv' I1 z5 ⟨.inr ⟨_,false,z1,⟨_,z5⟩,Dh lz,Dh li1,Dh li2⟩,kk _ _ N.n1 N.n3 N.n9 N.n10 p,z3.1,z4.1⟩
 ·have Z:Yj z i1 i2 [i1,a] [i2,b]:=⟨N.n4,N.n5,by simp; exact⟨N.n4.symm,(na z (by simp)).symm⟩,by simp; exact⟨N.n5.symm,(nb z (by simp)).symm⟩,by simp; exact⟨N.n8,(nb i1 (by simp)).symm⟩,by simp; exact⟨N.n8.symm,(na i2 (by simp)).symm⟩⟩
  refine YH Z (kL.dr hh1 (na i1 (by simp)) us.toArray) (kL.dr hh1 (nb i2 (by simp)) vs.toArray) g e p (show _/\_ from⟨l,pu⟩) (show _/\_ from⟨r,pv⟩) l1 l2 fun u' v' h' tk hu' hv' z1 z3 z4 z5 kk=>?_
  cases eu hu';cases ev hv';have I1:Inv X pins σ H { s with heap:=h',toks:=tk }:=I.lE (fp:=[z,TO,i1,i2]) (fun c o hc q=>kk c o (fun w=>hc (by simp[w])) (fun w=>hc (by simp[w])) (fun w=>hc (by simp[w])) q) fk
  obtain⟨ot,et⟩:=e;exact q _ _ _ _ ru' rv' I1 z5 ⟨.inr ⟨t,true,z1,⟨ot,kk _ _ nt.1 nt.2.1 nt.2.2 et⟩,nt⟩,kk _ _ N.n1 N.n9 N.n10 p,z3.1,z4.1⟩
theorem Q7 {H:Hp} {s:Shared} {A:Around} {E:Value->Shared->Prop} {xs ys:List V} {Q:Option Value->Shared->Prop} (N:Zn z TI TO i1 i2) (I:Inv X pins σ H s) (hh:A.handled=none) (ha:H a=some (.lst xs)) (hb:H b=some (.lst ys)) (S:ZS z TI TO i1 i2 a b xs.length s.heap)
  (hf:∀c∈[z,TI,TO,i1,i2],fV X pins H c)
  (q:∀s1,Inv X pins σ H s1->Q none s1):wpAny (model X.prog X.w) A (pyNext (.ref z)) Q E s:=by
 obtain⟨us,ru,pu⟩:=kL.inv I (cg.of ha);obtain⟨vs,rv,pv⟩:=kL.inv I (cg.of hb);have na:∀c∈[z,TI,TO,i1,i2],a≠c:=fun c hc=>kL.ne I (cg.of ha) (hf c hc);have nb:∀c∈[z,TI,TO,i1,i2],b≠c:=fun c hc=>kL.ne I (cg.of hb) (hf c hc);have hh1:A.in1.handled=none:=hh;have el:xs.length=us.toArray.size:=by rw[ru.length,fu]
 obtain⟨st,p,l,r⟩:=S;have fk:∀c∈[z,TO,i1,i2],fV X pins H c:=fun c hc=>hf c (by simp only[bI,dD,or_false] at hc ⊢; rcases hc with h | h | h | h <;> simp[h])
 rcases st with⟨g,xo,yo,e⟩ | ⟨t,fl,g,e,nt⟩
 ·have Z:Vg z TI TO i1 i2 [i1,a] [i2,b]:=⟨N.n1,N.n2,N.n3,N.n4,N.n5,N.n6,N.n7,N.n8,by simp; exact⟨N.n4.symm,(na z (by simp)).symm⟩,by simp; exact⟨N.n5.symm,(nb z (by simp)).symm⟩,by simp; exact⟨N.n6,(na TO (by simp)).symm⟩,by simp; exact⟨N.n7,(nb TO (by simp)).symm⟩,by simp; exact⟨N.n8,(nb i1 (by simp)).symm⟩,by simp; exact⟨N.n8.symm,(na i2 (by simp)).symm⟩⟩
  refine Im Z (kL.dr hh1 (na i1 (by simp)) us.toArray) (kL.dr hh1 (nb i2 (by simp)) vs.toArray) g p e (show _/\_ from⟨l,pu⟩) (show _/\_ from⟨r,pv⟩) (.inl el) fun h' tk kk=>q _ ?_
  exact I.lE (fp:=[z,TO,i1,i2]) (fun c o hc q=>kk c o (fun w=>hc (by simp[w])) (fun w=>hc (by simp[w])) (fun w=>hc (by simp[w])) (fun w=>hc (by simp[w])) q) fk
 ·have Z:Yj z i1 i2 [i1,a] [i2,b]:=⟨N.n4,N.n5,by simp; exact⟨N.n4.symm,(na z (by simp)).symm⟩,by simp; exact⟨N.n5.symm,(nb z (by simp)).symm⟩,by simp; exact⟨N.n8,(nb i1 (by simp)).symm⟩,by simp; exact⟨N.n8.symm,(na i2 (by simp)).symm⟩⟩
  refine Vs Z (kL.dr hh1 (na i1 (by simp)) us.toArray) (kL.dr hh1 (nb i2 (by simp)) vs.toArray) g e p (show _/\_ from⟨by rw[<- el]; exact l,pu⟩) fun h' tk kk=>q _ ?_
  exact I.lE (fp:=[z,TO,i1,i2]) (fun c o hc q=>kk c o (fun w=>hc (by simp[w])) (fun w=>hc (by simp[w])) (fun w=>hc (by simp[w])) q) fk
end
section
variable {X:Cx} {pins:List (Addr×Obj)} {σ:St} {z TI TO i1 i2 a b p:Addr} {ks:List Key} {ys:List V}
theorem Kc (N:Zn z TI TO i1 i2) (hn:ks.length=ys.length) (hz:ks.length<=1000):∀(k i:Nat) (H:Hp) (s:Shared) (A:Around) (acc:List (Key×V)) (R:Result->Shared->Prop),ks.length-i=k->i<=ks.length->A.handled=none->Inv X pins σ H s->H p=some (.dK acc)->acc.length<=i ->
  H a=some (.lst (ks.map kV))->H b=some (.lst ys)->ZS z TI TO i1 i2 a b i s.heap->(∀c∈[z,TI,TO,i1,i2],fV X pins H c) ->
  (∀s',Inv X pins σ (upd H p (.dK (jo acc ((ks.zip ys).drop i)))) s'->R (.ok (.ret .none)) s') ->
  wpAny (model X.prog X.w) A.in1 (Builtin.«dict.update.loop» ⟨[.ref p,.ref z,rawInt i,.none],[]⟩) (fun fin s'=>match fin with | .done f=>R (.ok f) s' | .again c'=>c'.quiet=true/\codeAny (model X.prog X.w) A c' R s') (fun e s'=>R (.error e) s') s:=by
 intro k
 induction k with
 | zero=>
  intro i H s A acc R hk hi hh I hp hacc ha hb S fp q;have ei:i=ks.length:=by omega
  unfold Builtin.«dict.update.loop»;refine aW (Q7 N I hh ha hb (by rw[bZ,<- ei]; exact S) fp fun s1 I1=>?_)
  dsimp only;unfold Builtin.Dict.addKeywords
  wp_walk
  refine q s1 ?_;have e:(ks.zip ys).drop i=[]:=List.drop_eq_nil_of_le (by rw[vY]; omega)
  rw[e]
  have eH:upd H p (.dK (jo acc []))=H:=by
   funext c
   by_cases w:c=p
   ·rw[w,aC,hp]; rfl
   ·rw[aN w]
  rw[eH];exact I1
 | succ k ih=>
  intro i H s A acc R hk hi hh I hp hacc ha hb S fp q;have hik:i<ks.length:=by omega
  have hiy:i<ys.length:=by omega
  have hd:(ks.zip ys).drop i=(ks[i],ys[i])::(ks.zip ys).drop (i+1):=by
   rw[KN (by rw[vY]; omega),List.getElem_zip]
  unfold Builtin.«dict.update.loop»;refine aW (Q6 N I hh ha hb S fp (x:=kV ks[i]) (y:=ys[i]) (by rw[cJ,dN hik]; rfl) (dN hiy) fun t u v s1 ru rv I1 e1 S1=>?_)
  dsimp only;have hT:s1.TypeIs (.ref t) "tuple" := ⟨_,e1,rfl⟩;refine aW (oV ?_);unfold Builtin.Dict.pairItems;refine aW (yS (aW (Dw hT ?_)));rw[bu (by decide)]
  refine aW (qT e1 rfl (cF ?_));obtain⟨zz,hsm,ws,rel,dd⟩:=JZ I1.hok hp;have hz':ws.length<=sizeLine:=by rw[<- rel.length]; exact zz
  have hl:(putK acc ks[i] ys[i]).length<=sizeLine:=by have h1:=iC acc ks[i] ys[i]; have h2:=aY (n:=acc.length+1) (by omega); omega
  refine oV (wpAny_dictSet_pairs (hsz:=hz') (Eo ru) dd fun h2 dd2 hs=>?_);have he:∃q,h2.get? p=some q:=let ⟨q,_,_,hq,_⟩:=dd2; ⟨q,hq⟩;have I2:=rF (t':=s1.toks+1) I1 (by rw[hp]; exact True.intro) hs he (Hz hl hsm (rel.put ks[i] rv) dd2)
  have npH:∀c,H c=none->c≠p:=fun c hc w=>by rw[w,hp] at hc; cases hc
  have nl:∀c zs,H c=some (.lst zs)->c≠p:=fun c zs hc w=>by rw[w,hp] at hc; cases hc
  refine cF ⟨plainId_quiet nZ _,codeAny_builtin yF ?_⟩;rw[Around.under_plainId nZ _];refine ih (i+1) _ _ A (putK acc ks[i] ys[i]) R (by omega) (by omega) hh I2 aC (by have:=iC acc ks[i] ys[i]; omega) (by rw[aN (nl _ _ ha)]; exact ha) (by rw[aN (nl _ _ hb)]; exact hb) ?_ (fun c hc=>⟨by rw[aN (npH c (fp c hc).1)]; exact(fp c hc).1,(fp c hc).2⟩) fun s' J=>?_
  ·have kc:∀c o,c∈[z,TI,TO,i1,i2]->s1.heap.get? c=some o->h2.get? c=some o:=fun c o hc e=>(hs.2 c (npH c (fp c hc).1)).trans e;obtain⟨st,p',l,r⟩:=S1;refine⟨?_,kc _ _ (by simp) p',l.at fun o e=>kc _ _ (by simp) e,r.at fun o e=>kc _ _ (by simp) e⟩
   rcases st with⟨g,x,y,e⟩ | ⟨t',fl,g,⟨o,e⟩,n⟩
   ·exact .inl ⟨kc _ _ (by simp) g,x,y,kc _ _ (by simp) e⟩
   ·refine .inr ⟨t',fl,kc _ _ (by simp) g,?_,n⟩
    by_cases w:t'=p
    ·rw[w]; exact he
    ·exact⟨o,(hs.2 t' w).trans e⟩
  ·rw[hd] at q;refine q s' ?_;have eH:upd (upd H p (.dK (putK acc ks[i] ys[i]))) p (.dK (jo (putK acc ks[i] ys[i]) ((ks.zip ys).drop (i+1))))=upd H p (.dK (jo acc ((ks[i],ys[i])::(ks.zip ys).drop (i+1)))):=Ir;rw[<- eH];exact J
end
section
variable {X:Cx}
def CZ (ta:TA):TE:=fun σ H Q=>ta σ H fun vs H1=>∃(a b:Addr) (ks:List Key) (ys:List V),vs=[.ref a,.ref b]/\H1 a=some (.lst (ks.map kV))/\H1 b=some (.lst ys)/\ks.length=ys.length/\ks.length<=1000/\∀p H',H1 p=none->aP H1 H'->H' p=some (.dK (jo [] (ks.zip ys)))->Q (.ref p) H'
theorem G5 {e e':Expr} {p p2 pos pos2:Pos} {ta:TA} (hc:X.calm=true) (hm:X.mg "dict" = none) (hm2:X.mg "zip" = none) (ha:PA X [e,e'] ta) (hg:Gl X "dict" := by rfl) (hg2:Gl X "zip" := by rfl) (h1:b8 e=true:=by rfl) (h2:b8 e'=true:=by rfl)
  (h3:b8 (.Call (.Name "zip" p2) [e,e'] [] pos2)=true:=by rfl) :
  PE X (.Call (.Name "dict" p) [.Call (.Name "zip" p2) [e,e'] [] pos2] [] pos) (CZ ta):=by
 refine .mk ?_;intro pins s σ H Q I h;refine uy (iJ I hg hm TV ?_ (by decide) (by decide))
 refine PyProof.Rows.callWith_type1 ?_ (cB h3) rfl;rw[cB h3];show wpAny _ _ (spliced ((false,eval (.Call (.Name "zip" p2) [e,e'] [] pos2) X.env)::backTo pos (starEach [] X.env))) _ _ s;refine Calls.spliced_cons ?_;refine uy (iJ I hg2 hm2 H_ ?_ (by decide) (by decide))
 refine PyProof.Rows.callWith_type1 (cI (ha pos2 pins s σ H _ I h) fun us s1 qx=>?_) (cB h1) (cM (es:=[e']) (by simp[h2]))
 obtain⟨vs,H1,I1,r1,a,b,ks,ys,rfl,hla,hlb,hn,hz,q⟩:=qx;obtain⟨u,v,rfl,ru,rv⟩:=r1.two;cases ru;cases rv;obtain⟨us,_,pu,_⟩:=I1.list (cg.of hla);obtain⟨ws,_,pw,_⟩:=I1.list (cg.of hlb);refine zO pu.isList pw.isList fun h' hzz hp ho l1 l2 kk=>?_;have I2:Inv X pins σ H1 { s1 with heap:=h' }:=I1.kept (t':=s1.toks) kk
 have fr:∀n,H1 (s1.heap.objs.size+n)=none:=fun n=>I1.hok.fresh (KD _ _);have fk:∀n,fV X pins H1 (s1.heap.objs.size+n):=fun n=>I1.tR (KD _ _) (fr n);have ne:∀i j:Nat,i≠j->s1.heap.objs.size+i≠s1.heap.objs.size+j:=fun i j n e=>n (Nat.add_left_cancel e);have N:Zn (s1.heap.objs.size+4) (s1.heap.objs.size+2) (s1.heap.objs.size+3) s1.heap.objs.size (s1.heap.objs.size+1):=⟨ne _ _ (by decide),ne _ _ (by decide),ne _ _ (by decide),ne 0 _ (by decide),ne _ _ (by decide),ne _ 0 (by decide),ne _ _ (by decide),ne 0 _ (by decide),ne _ 0 (by decide),ne _ _ (by decide)⟩
 have S0:ZS (s1.heap.objs.size+4) (s1.heap.objs.size+2) (s1.heap.objs.size+3) s1.heap.objs.size (s1.heap.objs.size+1) a b 0 h':=⟨.inl ⟨hzz,_,_,ho⟩,hp,l1,l2⟩
 have fp:∀c∈[s1.heap.objs.size+4,s1.heap.objs.size+2,s1.heap.objs.size+3,s1.heap.objs.size,s1.heap.objs.size+1],fV X pins H1 c:=fun c hc=>by
  simp only[bI,dD,or_false] at hc;rcases hc with rfl | rfl | rfl | rfl | rfl
  ·exact fk 4
  ·exact fk 2
  ·exact fk 3
  ·exact fk 0
  ·exact fk 1
 clear fr fk ne l1 l2 hp ho;generalize s1.heap.objs.size+4=z at *;generalize s1.heap.objs.size+2=TI at *;generalize s1.heap.objs.size+3=TO at *;generalize s1.heap.objs.size+1=i2 at *;generalize s1.heap.objs.size=i1 at *;obtain⟨s2,hs2⟩:∃s2,({ s1 with heap:=h' }:Shared)=s2:=⟨_,rfl⟩
 have e2:h'=s2.heap:=by rw[<- hs2]
 rw[hs2] at I2 ⊢;rw[e2] at S0 hzz;refine Calls.spliced_nil ?_;have hh:X.A.handled=none:=I2.ok.hd hc;have hf:=I2.hok.fresh (bL s2.heap.objs.size);have I3:=I2.laid (a:=s2.heap.objs.size) (o:=.dK []) (t':=s2.toks) (fun _ _ q=>dW _ q) (bL _) (Es s2.heap I2.big);have sm:=aQ hf (.dK []);have hd3:upd H1 s2.heap.objs.size (.dK []) s2.heap.objs.size=some (.dK []):=aC;refine callType_codes (Q₁:=fun obj s₁=>obj=.ref s2.heap.objs.size/\s₁={ s2 with heap:=s2.heap.push { cls:=.type "dict",data:=.dict #[] } }) F.kt_called_dict (F.kt_typeCall_dict_1 _) F.entry_dict_init (kt_code_dict_new _ ⟨rfl,rfl⟩) ?_
 rintro obj s₁ ⟨rfl,rfl⟩;have hT:Shared.TypeIs { s2 with heap:=s2.heap.push { cls:=.type "dict",data:=.dict #[] } } (.ref s2.heap.objs.size) "dict" := ⟨_,dw _ rfl,rfl⟩
 refine⟨hT,F.args_dict_init_2 _ _,?_⟩;unfold Builtin.«dict.__init__»;refine aW ?_;unfold Builtin.Dict.selfAndRest;refine aW (wpAny_notOrdered_dict hT ?_);show wpAny _ _ (pure (s2.heap.objs.size,[Value.ref z])) _ _ _;refine cF ?_;show wpAny _ _ (Builtin.Dict.updateFrom "dict.__init__" s2.heap.objs.size (.ref z) [] .none) _ _ _;unfold Builtin.Dict.updateFrom;have ez:(s2.heap.push { cls:=.type "dict",data:=.dict #[] }).get? z=some _:=dW _ hzz;refine aW (Dw ⟨_,ez,rfl⟩ ?_);rw[bu (by decide)]
 refine aW (Hn ez hh fun h4 tk k4=>?_);rw[bu (by decide)]
 refine aW (qU ?_);have I4:=I3.kept (t':=tk) k4;have S4:=S0.keep (h':=h4) fun c o e=>k4 _ _ (dW _ e)
 have fp4:∀c∈[z,TI,TO,i1,i2],fV X pins (upd H1 s2.heap.objs.size (.dK [])) c:=fun c hc=>by
  have lt:c<s2.heap.objs.size:=by
   obtain⟨st,p',l,r⟩:=S0;rcases st with⟨g,x,y,e⟩ | ⟨t',fl,g,⟨o,e⟩,n⟩
   ·simp only[bI,dD,or_false] at hc;rcases hc with rfl | rfl | rfl | rfl | rfl
    ·exact cz g
    ·exact cz p'
    ·exact cz e
    ·obtain⟨o,e,_⟩:=l; exact cz e
    ·obtain⟨o,e,_⟩:=r; exact cz e
   ·have g':s2.heap.get? z=some _:=g;have h'':s2.heap.get? z=some _:=hzz;rw[h''] at g';exact absurd g' (by intro w; cases w)
  exact⟨by rw[aN (fP lt)]; exact(fp c hc).1,(fp c hc).2⟩
 refine aW (Ji (show IsZip h4 z TI TO .none from k4 _ _ ez) ?_);refine cF ⟨plainId_quiet nZ _,codeAny_builtin yF ?_⟩;rw[Around.under_plainId nZ _];refine Kc (p:=s2.heap.objs.size) (ks:=ks) (ys:=ys) N hn hz ks.length 0 _ _ X.A.in1 [] _ (by omega) (gw _) hh I4 aC (gw _) (sm _ _ hla) (sm _ _ hlb) S4 fp4 fun s' J=>?_
 rw[Ir] at J;exact⟨rfl,.ref s2.heap.objs.size,_,J,rfl,q _ _ hf (aQ hf _) aC⟩
end
structure Ij (K:PySem.W.Frag) (x qual:Str) (st:Stmt) (f:Addr) (fd:FuncData) (T:Addr):Prop where
 ex:∃(oc:Value) (od:Option Addr) (kV doc pm:Value) (an:Option Addr) (cdv ct:Value) (osl:Array (Option Value)),
  fd=PySem.W.fnOf x qual (cu st) (bV st) (aF st) (.ref T) kV doc pm an cdv ct/\K.lookup f=some ⟨oc,od,.func fd,osl⟩/\PySem.W.codeIn K cdv qual=true
 kp:PySem.W.keepIn K (.ref f)=true
 df:∃o n,K.lookup T=some o/\o.data=.seq #[.none] n
section
variable {P:Program} {w:World} {K:PySem.W.Frag} {mg:Str->Option Value} {base:Heap}
theorem Ij.okE {x qual:Str} {st:Stmt} {f T:Addr} {fd:FuncData} {N ps:List Str} {k:Nat} {sp:Sp} (F:Ij K x qual st f fd T) (S:aV N ps (aF st)) (len:∀vs H Q E,sp vs H Q E->vs.length=ps.length)
  (hbody:∀(cdv:Value) (A:Around) (outer:List Env) (s:Shared) (H:Hp) (vs:List V) (Q:VK) (E:XK),nY P w H s.heap->fU k (A.deeper (envOfC qual (aF st) s.heap.objs.size f cdv))->sp vs H Q E ->
   ∃t,Fo (xf (QK P w) P w K mg base N qual (aF st) f cdv A outer s H E) (bV st) t/\t { nx:=fun _ H'=>Q .non H',rt:=Q } (start N vs) H):bJ P w K mg base (QK P w) (k+1) f fd ps sp:=by
 obtain⟨oc,od,kV,doc,pm,an,cdv,ct,osl,rfl,lk,hcd⟩:=F.ex;exact Xh lk hcd S len fun A outer s H vs Q E h00 hr hsp=>hbody cdv A outer s H vs Q E h00 hr hsp
theorem Ij.binds {x qual:Str} {st:Stmt} {f T:Addr} {fd:FuncData} {ps:List Str} {ds:List Value} (F:Ij K x qual st f fd T)
  (h:∀(kV doc pm:Value) (an:Option Addr) (cdv ct:Value) (us:List Value),(us++ds).length=ps.length->∃k,bindArgs (PySem.W.fnOf x qual (cu st) (bV st) (aF st) (.ref T) kV doc pm an cdv ct) ⟨us,[]⟩=seqItems? (.ref T) >>= k/\k (some #[.none])=pure (ps.zip (us++ds))):Binds K fd ps ds:=by
 obtain⟨oc,od,kV,doc,pm,an,cdv,ct,osl,rfl,lk,hcd⟩:=F.ex;obtain⟨o,n,ho,hd⟩:=F.df;intro s us KX hl;obtain⟨k,h1,h2⟩:=h kV doc pm an cdv ct us hl;exact BindsTo.of_defaults rfl (KX _ _ ho) hd h1 h2
structure rT (P:Program) (w:World) (K:PySem.W.Frag) (mg:Str->Option Value) (base:Heap) (k:Nat) (C:Addr) (m:Str) (ps:List Str) (sp:Sp) where
 f:Addr
 fd:FuncData
 G:bJ P w K mg base gf k f fd ps sp
 M:Meth K C m f
 c:Fq K C
 b:Binds K fd ps []
structure ajC (P:Program) (w:World) (K:PySem.W.Frag) (mg:Str->Option Value) (base:Heap) (k:Nat) (C:Addr) (m:Str) (ps:List Str) (sp:Sp) where
 f:Addr
 fd:FuncData
 G:bJ P w K mg base (QK P w) k f fd ps sp
 M:Meth K C m f
 c:Fq K C
 b:Binds K fd ps []
structure Yp (P:Program) (w:World) (K:PySem.W.Frag) (mg:Str->Option Value) (base:Heap) (k:Nat) (C:Addr) (x:Str) (ps:List Str) (sp:Sp) where
 f:Addr
 fd:FuncData
 j:Nat
 hj:j+1<=k
 G:bJ P w K mg base gf j f fd ps sp
 M:Mk K C f
 b:Binds K fd ps []
 bd:Binds K fd ps [.none]
 m:mg x=some (.ref C)
structure XX (P:Program) (w:World) (K:PySem.W.Frag) (mg:Str->Option Value) (base:Heap) (k:Nat) (C:Addr) (x:Str) (ps:List Str) (sp:Sp) where
 f:Addr
 fd:FuncData
 j:Nat
 hj:j+1<=k
 G:bJ P w K mg base (QK P w) j f fd ps sp
 M:Mk K C f
 b:Binds K fd ps []
 bd:Binds K fd ps [.none]
 m:mg x=some (.ref C)
theorem bJ.calm {k:Nat} {f:Addr} {fd:FuncData} {ps:List Str} {sp:Sp} (G:bJ P w K mg base (QK P w) k f fd ps sp):bJ P w K mg base gf k f fd ps (fun vs H Q _=>sp vs H Q E0):=
 ⟨fun vs H Q E h=>G.len _ _ _ _ h,fun A outer s H args us vs Q E hr he hb hv h=>codeAny_mono (G.run A outer s H args us vs Q E0 hr he hb hv h) fun r s' z=>by
  cases r with
  | error e=>
   obtain⟨_,_,_,_,_,_,_,_,_,_,_,_,_,q⟩:=z;exact q.elim
  | ok fl=>cases fl <;> exact z⟩
def rT.mono {j k:Nat} {C:Addr} {m:Str} {ps:List Str} {sp:Sp} (c:rT P w K mg base j C m ps sp) (h:j<=k):rT P w K mg base k C m ps sp:={ c with G:=c.G.mono h }
def Yp.mono {j k:Nat} {C:Addr} {m:Str} {ps:List Str} {sp:Sp} (c:Yp P w K mg base j C m ps sp) (h:j<=k):Yp P w K mg base k C m ps sp:={ c with hj:=j4 c.hj h }
def XX.calm {k:Nat} {C:Addr} {m:Str} {ps:List Str} {sp:Sp} (c:XX P w K mg base k C m ps sp):Yp P w K mg base k C m ps (fun vs H Q _=>sp vs H Q E0):=⟨c.f,c.fd,c.j,c.hj,c.G.calm,c.M,c.b,c.bd,c.m⟩
def Q5.alias {k:Nat} {x y:Str} {ps:List Str} {i:Int} {sp:Sp} (c:Q5 P w K mg base k x ps i sp) (h:mg y=some (.ref c.f)):Q5 P w K mg base k y ps i sp:=⟨c.f,c.fd,c.t,c.G,c.kp,c.b,c.bd,h⟩
end
section
variable {X:Cx} {C:Addr} {m x:Str} {apos pos p:Pos} {o e:Expr} {es:List Expr} {ta:TE} {t:TA} {k:Nat} {ps:List Str} {sp:Sp}
theorem pm (c:rT X.prog X.w X.K X.mg X.base k C m ps sp) (hr:fU k X.A) (ho:PE X o ta) (ha:PA X (e::es) t) (h1:b8 e=true:=by rfl) (h2:es.all b8=true:=by rfl) {pl:Sem Bool}
  (ht:eval (.Call (.Attribute o m apos) (e::es) [] pos) X.env=(do
   let ov <- eval o X.env
   standAt apos.atName
   let (f,first) <- holding [ov] (getMethod ov m pl)
   callWith pos f first (backTo pos (starEach (e::es) X.env)) (backToKw pos (keywordEach [] X.env))):=by rfl):PE X (.Call (.Attribute o m apos) (e::es) [] pos) (u_ C m sp [] E0 ta t):=
 R4 ho c.c c.M c.G hr c.b .nil D_ ha (cB h1) (cM h2) ht
theorem V9 (c:rT X.prog X.w X.K X.mg X.base k C m ps sp) (hr:fU k X.A) (ho:PE X o ta) {pl:Sem Bool}
  (ht:eval (.Call (.Attribute o m apos) [] [] pos) X.env=(do
   let ov <- eval o X.env
   standAt apos.atName
   let (f,first) <- holding [ov] (getMethod ov m pl)
   callWith pos f first (backTo pos (starEach [] X.env)) (backToKw pos (keywordEach [] X.env))):=by rfl):PE X (.Call (.Attribute o m apos) [] [] pos) (u_ C m sp [] E0 ta CV):=
 O1 ho c.c c.M c.G hr c.b .nil D_ ht
theorem pk (c:Yp X.prog X.w X.K X.mg X.base k C x ps sp) (hr:fU k X.A) (ha:PA X (e::es) t) (hg:Gl X x:=by rfl) (hdb:(x==("__debug__" : Str))=false:=by decide) (h1:b8 e=true:=by rfl) (h2:es.all b8=true:=by rfl) :
  PE X (.Call (.Name x p) (e::es) [] pos) (Np C sp [] E0 t):=R6 c.M c.G (hr.mono c.hj) hg c.m c.b .nil D_ ha hdb (cB h1) (cM h2)
theorem bQ {K:PySem.W.Frag} {f:Str} (hK:X.K=K) (he:PE X e ta) (hb:attributeBase e f X.env (eval e X.env)=eval e X.env:=by rfl):PE X (.Attribute e f pos) (VB K ta f):=by
 subst hK;exact Wg he hb
theorem lL {K:PySem.W.Frag} {f:Str} {value:Expr} {pos':Pos} {tv:TE} (hK:X.K=K) (ha:PE X o ta) (hv:PE X value tv) (hs:swapsWith value (some (.Attribute o f pos')) pos.line X.env=pure false:=by rfl):PS X (.Assign [.Attribute o f pos'] value pos) (V0 K ta tv f):=by
 subst hK;exact V8 ha hv hs
end
section
variable {P:Program} {w:World} {K:PySem.W.Frag} {mg:Str->Option Value} {base:Heap} {N:List Str} {qual:Str} {scope:Scope} {f:Addr} {cd:Value} {A:Around} {outer:List Env} {s0:Shared} {H0:Hp} {E:XK}
def Vz (C:Addr) (m:Str) (sp:Sp) (E:XK) (ta:TE) (t:TA):TE:=fun σ H Q=>ta σ H fun x H1=>∃a dx fs,x=.ref a/\H1 a=some (.ins C dx fs)/\fs.lookup m=none/\t σ H1 fun vs H2=>sp (.ref a::vs) H2 Q (fun cls _ H3=>∀H4,(aP H2 H3->aP H2 H4)->E cls none H4)
end
theorem Wj {X:Cx} {K:PySem.W.Frag} (hK:X.K=K):mG X (compareOp .In) (ZK K false):=by
 subst hK;exact La
theorem K9 {X:Cx} {K:PySem.W.Frag} (hK:X.K=K):mG X (compareOp .NotIn) (ZK K true):=by
 subst hK;exact Az
theorem zE (ns:List Str):(ns.map V.str).all rD=true:=by
 rw[List.all_map];exact oX.mpr fun _ _=>rfl
theorem JR (n:Str) (ns:List Str):inV (.str n) (ns.map V.str)=decide (n∈ns):=by
 unfold inV;rw[List.any_map]
 induction ns with
 | nil=>rfl
 | cons a r ih=>
  rw[Gu,ih];by_cases h:n=a
  ·subst h;simp[QX]
  ·have:¬a=n:=fun z=>h z.symm;simp[QX,h,this]
def dI (H H':Hp):Prop:=∀b xs,H b=some (.tup xs)->H' b=some (.tup xs)
theorem dI.trans {H H1 H2:Hp} (a:dI H H1) (b:dI H1 H2):dI H H2:=fun c xs z=>b c xs (a c xs z)
theorem aP.kp {H H':Hp} (s:aP H H'):dI H H':=fun b _ z=>s b _ z
theorem dI.put {H:Hp} {p:Addr} {o:HO} (n:∀xs,H p≠some (.tup xs)):dI H (upd H p o):=fun b xs z=>by
 by_cases e:b=p
 ·subst e; exact absurd z (n xs)
 ·rw[aN e]; exact z
theorem dI.putL {H:Hp} {p:Addr} {o:HO} {xs:List V} (n:H p=some (.lst xs)):dI H (upd H p o):=dI.put fun ys z=>by rw[n] at z; cases z
theorem dI.putD {H:Hp} {p:Addr} {o:HO} {xs:List (Key×V)} (n:H p=some (.dK xs)):dI H (upd H p o):=dI.put fun ys z=>by rw[n] at z; cases z
mutual
theorem At.kp {H H':Hp} (m:dI H H'):∀(d:PyData) (v:V),tL d=true->At H d v->At H' d v
 | .none,_,_,h=>by unfold At at h ⊢; exact h
 | .bool _,_,_,h=>by unfold At at h ⊢; exact h
 | .int _,_,_,h=>by unfold At at h ⊢; exact h
 | .str _,_,_,h=>by unfold At at h ⊢; exact h
 | .tuple ds,v,n,h=>by
  unfold At at h ⊢;obtain⟨a,ys,e,h1,h2⟩:=h;exact⟨a,ys,e,m _ _ h1,aj.kp m ds ys (by simpa[tL] using n) h2⟩
 | .list _,_,n,_=>by simp[tL] at n
 | .dict _,_,n,_=>by simp[tL] at n
theorem aj.kp {H H':Hp} (m:dI H H'):∀(ds:List PyData) (ys:List V),bK ds=true->aj H ds ys->aj H' ds ys
 | [],_,_,h=>by unfold aj at h ⊢; exact h
 | d::ds,ys,n,h=>by
  unfold aj at h ⊢;obtain⟨x,r,e,h1,h2⟩:=h;simp only[bK,Gx] at n;exact⟨x,r,e,At.kp m d x n.1 h1,aj.kp m ds r n.2 h2⟩
end
theorem aj.nth {H:Hp}:∀{ds:List PyData} {ys:List V} {i:Nat} {d:PyData},aj H ds ys->ds[i]?=some d->∃y,ys[i]?=some y/\At H d y
 | [],_,_,_,_,e=>by cases e
 | d::ds,ys,i,d',h,e=>by
  unfold aj at h;obtain⟨x,r,rfl,h1,h2⟩:=h;cases i with
  | zero=>cases e; exact⟨x,rfl,h1⟩
  | succ i=>exact aj.nth (ds:=ds) (ys:=r) (i:=i) h2 e
theorem aj.snoc {H:Hp} {ds:List PyData} {ys:List V} {d:PyData} {y:V} (h:aj H ds ys) (a:At H d y):aj H (ds++[d]) (ys++[y]):=aj.append h (aj.cons a aj.nil)
def Fr (S:List Addr) (H H':Hp):Prop:=∀b o,H b=some o->b∉S->H' b=some o
theorem Fr.refl (S:List Addr) (H:Hp):Fr S H H:=fun _ _ z _=>z
theorem aP.fr {H H':Hp} (s:aP H H') (S:List Addr):Fr S H H':=fun b o z _=>s b o z
theorem Fr.trans {S:List Addr} {H H1 H2:Hp} (a:Fr S H H1) (b:Fr S H1 H2):Fr S H H2:=fun c o z n=>b c o (a c o z n) n
theorem Fr.sub {S T:List Addr} {H H':Hp} (a:Fr S H H') (h:∀b∈S,b∈T\/H b=none):Fr T H H':=fun b o z n=>a b o z fun hb=>(h b hb).elim n fun e=>by rw[e] at z; cases z
theorem Fr.put {S:List Addr} {H:Hp} {p:Addr} {o:HO} (h:p∈S):Fr S H (upd H p o):=fun b u z n=>by
 have e:b≠p:=fun e=>n (by rw[e]; exact h)
 rw[aN e]; exact z
theorem Fr.kp {S:List Addr} {H H':Hp} (a:Fr S H H') (n:∀b∈S,∀xs,H b≠some (.tup xs)):dI H H':=fun b xs z=>a b _ z fun hb=>n b hb xs z
def zK (ns:List Str) (vs:List V):List (Key×V):=(ns.map Sum.inr).zip vs
theorem FJ {ns:List Str} {vs:List V} (h:ns.length=vs.length):(zK ns vs).length=ns.length:=by unfold zK; rw[vY,bZ]; omega
theorem MN:∀{ns:List Str} {vs:List V} {i:Nat} {n:Str},ns.Nodup->ns[i]?=some n->ns.length=vs.length->qF (zK ns vs) (Sum.inr n:Key)=vs[i]?
 | [],_,_,_,_,h,_=>by cases h
 | a::ns,[],_,_,_,_,h=>by cases h
 | a::ns,v::vs,0,n,_,h,_=>by
  cases h;exact qD rfl
 | a::ns,v::vs,i+1,n,nd,h,l=>by
  have hn:a≠n:=fun z=>by
   subst z;exact(jm.mp nd).1 (dM h)
  show qF ((Sum.inr a,v)::zK ns vs) (Sum.inr n:Key)=_;unfold qF;rw[List.find?_cons_of_neg (by simpa using hn)]
  exact MN (jm.mp nd).2 h (Nat.succ.inj l)
theorem FN:∀{ns:List Str} {vs:List V} {n:Str},ns.length=vs.length->((zK ns vs).any fun kv=>decide (kv.1=(Sum.inr n:Key)))=decide (n∈ns)
 | [],_,_,_=>by simp[zK]
 | a::ns,[],_,h=>by cases h
 | a::ns,v::vs,n,l=>by
  show(((Sum.inr a,v)::zK ns vs).any _)=_;rw[Gu,FN (Nat.succ.inj l)];by_cases h:n=a
  ·subst h; simp
  ·have:¬a=n:=fun z=>h z.symm;simp[h,this]
theorem MT:∀{ns:List Str} {vs:List V} {i:Nat} {n:Str} {u:V},ns.Nodup->ns[i]?=some n->ns.length=vs.length->((zK ns vs).map fun kv=>if kv.1=(Sum.inr n:Key) then(kv.1,u) else kv)=zK ns (vs.set i u)
 | [],_,_,_,_,_,h,_=>by cases h
 | a::ns,[],_,_,_,_,_,h=>by cases h
 | a::ns,v::vs,0,n,u,nd,h,l=>by
  cases h;show(((Sum.inr a,v)::zK ns vs).map _)=(Sum.inr a,u)::zK ns vs;rw[iB,bu rfl]
  congr 1
  have hn:=(jm.mp nd).1;rw[List.map_congr_left (g:=id),List.map_id];intro kv hkv;refine aZ fun z=>hn ?_;have:=DP hkv;rw[z] at this;simpa using this.1
 | a::ns,v::vs,i+1,n,u,nd,h,l=>by
  have hn:a≠n:=fun z=>by
   subst z;exact(jm.mp nd).1 (dM h)
  show(((Sum.inr a,v)::zK ns vs).map _)=(Sum.inr a,v)::zK ns (vs.set i u);rw[iB,aZ (by simpa using hn),MT (jm.mp nd).2 h (Nat.succ.inj l)]
theorem Vp {ns:List Str} {vs:List V} {i:Nat} {n:Str} {u:V} (nd:ns.Nodup) (h:ns[i]?=some n) (l:ns.length=vs.length):putK (zK ns vs) (Sum.inr n:Key) u=zK ns (vs.set i u):=by
 unfold putK;rw[bu (by rw[FN l]; exact oW (dM h)),MT nd h l]
theorem MP {ns:List Str} {vs:List V} {n:Str} {u:V} (h:n∉ns) (l:ns.length=vs.length):putK (zK ns vs) (Sum.inr n:Key) u=zK (ns++[n]) (vs++[u]):=by
 unfold putK;rw[aZ (by rw[FN l]; simpa using h)]
 unfold zK;rw[gY,List.zip_append (by rw[bZ]; exact l)]
 rfl
theorem CJ:∀(ns:List Str) (vs:List V) (ms:List Str) (us:List V),(ms++ns).Nodup->ms.length=us.length->ns.length=vs.length->jo (zK ms us) (zK ns vs)=zK (ms++ns) (us++vs)
 | [],vs,ms,us,_,_,l=>by
  cases vs with
  | nil=>rw[Di,Di]; rfl
  | cons=>cases l
 | a::ns,[],ms,us,_,_,l=>by cases l
 | a::ns,v::vs,ms,us,nd,h,l=>by
  have hn:a∉ms:=fun z=>by
   rw[pZ] at nd;exact nd.2.2 a z a (iV ..) rfl
  show jo (putK (zK ms us) (Sum.inr a) v) (zK ns vs)=_;rw[MP hn h,CJ ns vs (ms++[a]) (us++[v]) (by rw[Dl]; exact nd) (by simp[h]) (Nat.succ.inj l),Dl,Dl]
  rfl
theorem lB.z {H:Hp} {a:Addr} {ns:List Str} {vs:List V} {i:Nat} {n:Str} {v:V} (e:H a=some (.dK (zK ns vs))) (nd:ns.Nodup) (h:ns[i]?=some n) (l:ns.length=vs.length) (hv:vs[i]?=some v):lB H a (.str n) (some v):=by
 have:=lB.k (k:=(Sum.inr n:Key)) e;rw[MN nd h l,hv] at this;exact this
theorem rP.z {H:Hp} {a:Addr} {ns:List Str} {vs:List V} {i:Nat} {n:Str} {v:V} (e:H a=some (.dK (zK ns vs))) (nd:ns.Nodup) (h:ns[i]?=some n) (l:ns.length=vs.length) (z:ns.length<=1000):rP H a (.str n) v (upd H a (.dK (zK ns (vs.set i v)))):=by
 have:=rP.k (k:=(Sum.inr n:Key)) (v:=v) e (aY (by rw[FJ l]; exact z))
 rw[Vp nd h l] at this;exact this
theorem Qj {K:PySem.W.Frag} {nt:Nat} {g:TG} {js:List Nat} {a:Addr} {xs:List V} {tl tk tv:TE} {σ:St} {H:Hp} {Q:VK} (τ:Nat->St) (hτ:∀i,(τ i).length=nt) (hl:∀R:VK,R (.ref a) H->tl σ H R) (ha:H a=some (.lst xs))
  (h:∀acc,H acc=none->∃Pv:Nat->List (Key×V)->Hp->Prop,Pv 0 [] (upd H acc (.dK []))/\(∀i ys H',Pv i ys H'->H' a=some (.lst xs)) /\
   (∀i x ys H',xs[i]?=some x->Pv i ys H'->(∀R:St->Hp->Prop,R (τ i++b7 js σ) H'->g x (List.replicate nt none++b7 js σ) H' R)/\tk (τ i++b7 js σ) H' fun y H4=>tv (τ i++b7 js σ) H4 fun v H5=>∃k,y=kV k/\H5 acc=some (.dK ys)/\ys.length<sizeLine/\Pv (i+1) (putK ys k v) (upd H5 acc (.dK (putK ys k v))))/\∀ys H',Pv xs.length ys H'->Q (.ref acc) H'):vf nt js (kJ K tl) g tk tv σ H Q:=by
 refine hl _ ⟨a,rfl,⟨xs,cg.of ha⟩,fun acc hacc=>?_⟩;obtain⟨Pv,p0,pA,ps,pf⟩:=h acc hacc;refine⟨fun i m ys H2=>m=xs.length-i/\i<=xs.length/\Pv i ys H2,⟨_,rfl,gw _,p0⟩,?_⟩;rintro i m ys H2 ⟨rfl,hi,hP⟩;have ht:cg K H2 a xs:=cg.of (pA _ _ _ hP);by_cases hlt:i<xs.length
 ·refine .inr ⟨⟨xs,xs[i],ht,dN hlt⟩,fun x H3 y=>?_⟩;obtain⟨e1,y⟩:=y;subst e1;obtain⟨gg,tt⟩:=ps i x ys _ (y xs ht) hP;refine gg _ ⟨⟨?_,?_⟩,?_⟩
  ·rw[List.drop_append_of_le_length (by rw[hτ]; exact bL _),<- hτ i,Gy,DN]
  ·rw[cN,cN,hτ,tH]
  have e:(fun(y:V) (H4:Hp)=>tv (τ i++b7 js σ) H4 fun v H5=>∃k,y=kV k/\H5 acc=some (.dK ys)/\ys.length<sizeLine/\Pv (i+1) (putK ys k v) (upd H5 acc (.dK (putK ys k v))))=fun y H4=>tv (τ i++b7 js σ) H4 fun v H5=>∃k,y=kV k/\H5 acc=some (.dK ys)/\ys.length<sizeLine/\∃m',m'<xs.length-i/\(m'=xs.length-(i+1)/\i+1<=xs.length/\Pv (i+1) (putK ys k v) (upd H5 acc (.dK (putK ys k v)))):=by
   funext y H4
   congr 1
   funext v H5
   exact propext ⟨fun⟨k,z0,z1,z2,z3⟩=>⟨k,z0,z1,z2,xs.length-(i+1),by omega,rfl,hlt,z3⟩,fun⟨k,z0,z1,z2,_,_,_,_,z3⟩=>⟨k,z0,z1,z2,z3⟩⟩
  rw[e] at tt;exact tt
 ·have e:i=xs.length:=by omega
  subst e;exact .inl ⟨⟨xs,ht,bL _⟩,pf _ _ hP⟩
theorem cD {α:Type} {l:List α} {i:Nat} {x:α} (h:l[i]?=some x):l.take (i+1)=l.take i++[x]:=by
 rw[List.take_add_one,h]; rfl
theorem uT {K:PySem.W.Frag} {nt:Nat} {g:TG} {js:List Nat} {a:Addr} {xs:List V} {tl tk tv:TE} {σ:St} {H:Hp} {Q:VK} (ns:List Str) (ds:List PyData) (τ:Nat->St) (hτ:∀i,(τ i).length=nt) (hl:∀R:VK,R (.ref a) H->tl σ H R) (ha:H a=some (.lst xs))
  (nd:ns.Nodup) (ln:ns.length=xs.length) (ld:ds.length=xs.length) (hz:xs.length<=1000) (hn:bK ds=true)
  (step:∀i x n d H',xs[i]?=some x->ns[i]?=some n->ds[i]?=some d->aP H H'->(∀R:St->Hp->Prop,R (τ i++b7 js σ) H'->g x (List.replicate nt none++b7 js σ) H' R)/\(∀R:VK,R (.str n) H'->tk (τ i++b7 js σ) H' R)/\∀R:VK,(∀v H5,aP H' H5->At H5 d v->R v H5)->tv (τ i++b7 js σ) H' R)
  (fin:∀acc vs H',H acc=none->aP H H'->H' acc=some (.dK (zK ns vs))->aj H' ds vs->ns.length=vs.length->Q (.ref acc) H'):vf nt js (kJ K tl) g tk tv σ H Q:=by
 refine Qj τ hτ hl ha fun acc hacc=>?_;refine⟨fun i ys H2=>∃vs,ys=zK (ns.take i) vs/\(ns.take i).length=vs.length/\aj H2 (ds.take i) vs/\aP H H2/\H2 acc=some (.dK ys),⟨[],rfl,rfl,aj.nil,aQ hacc _,aC⟩,fun i ys H2 q=>?_,?_,?_⟩
 ·obtain⟨vs,_,_,_,s2,_⟩:=q;exact s2 _ _ ha
 ·rintro i x ys H2 hx ⟨vs,rfl,lv,av,s2,e2⟩;have hi:i<xs.length:=(iT.mp hx).1;have en:ns[i]?=some ns[i]:=dN (by omega)
  have ed:ds[i]?=some ds[i]:=dN (by omega)
  obtain⟨g1,g2,g3⟩:=step i x _ _ H2 hx en ed s2;refine⟨g1,g2 _ (g3 _ fun v H5 s5 a5=>⟨Sum.inr ns[i],rfl,s5 _ _ e2,aY ?_,vs++[v],?_,?_,?_,?_,aC⟩)⟩
  ·rw[FJ lv,mD]; omega
  ·rw[cD en,MP _ lv];intro z;rw[<- List.take_append_drop i ns,pZ] at nd;exact nd.2.2 _ z _ (by rw[KN (by omega)]; exact iV ..) rfl
  ·rw[cD en,cN,cN,lv]; rfl
  ·rw[cD ed];have k5:dI H2 (upd H5 acc (.dK (putK (zK (ns.take i) vs) (Sum.inr ns[i]) v))):=s5.kp.trans (dI.putD (s5 _ _ e2));have hn':=bf.mp hn;exact(aj.kp k5 _ _ (bf.mpr fun d hd=>hn' d (vZ hd)) av).snoc (At.kp (dI.putD (s5 _ _ e2)) _ _ (hn' _ (nu _)) a5)
  ·intro b o z;rw[aN (fun e=>by rw[e,hacc] at z; cases z)]
   exact s5 _ _ (s2 _ _ z)
 ·rintro ys H2 ⟨vs,rfl,lv,av,s2,e2⟩;rw[show xs.length=ns.length from ln.symm,pY] at e2 lv;rw[show xs.length=ds.length from ld.symm,pY] at av;exact fin acc vs H2 hacc s2 e2 av lv
theorem oM {K:PySem.W.Frag} {nt:Nat} {g:TG} {js:List Nat} {a:Addr} {xs:List V} {tl te:TE} {σ:St} {H:Hp} {Q:VK} (ds:List PyData) (τ:Nat->St) (hτ:∀i,(τ i).length=nt) (hl:∀R:VK,R (.ref a) H->tl σ H R) (ha:H a=some (.lst xs))
  (ld:ds.length=xs.length) (hz:xs.length<=1000) (hn:bK ds=true)
  (step:∀i x d H',xs[i]?=some x->ds[i]?=some d->aP H H'->(∀R:St->Hp->Prop,R (τ i++b7 js σ) H'->g x (List.replicate nt none++b7 js σ) H' R)/\∀R:VK,(∀v H5,aP H' H5->At H5 d v->R v H5)->te (τ i++b7 js σ) H' R)
  (fin:∀acc vs H',H acc=none->aP H H'->H' acc=some (.lst vs)->aj H' ds vs->Q (.ref acc) H'):eV nt js (kJ K tl) g rZ te σ H Q:=by
 refine Qm τ hτ hl ha fun acc hacc=>?_;refine⟨fun i ys H2=>ys.length=i/\aj H2 (ds.take i) ys/\aP H H2/\H2 acc=some (.lst ys),⟨rfl,aj.nil,aQ hacc _,aC⟩,fun i ys H2 q=>q.2.2.1 _ _ ha,?_,?_⟩
 ·rintro i x ys H2 hx ⟨lv,av,s2,e2⟩;have hi:i<xs.length:=(iT.mp hx).1;have ed:ds[i]?=some ds[i]:=dN (by omega)
  obtain⟨g1,g3⟩:=step i x _ H2 hx ed s2;refine⟨g1,g3 _ fun v H5 s5 a5=>⟨s5 _ _ e2,aY (by omega),by rw[cN,lv]; rfl,?_,?_,aC⟩⟩
  ·rw[cD ed];have k5:dI H2 (upd H5 acc (.lst (ys++[v]))):=s5.kp.trans (dI.putL (s5 _ _ e2));have hn':=bf.mp hn;exact(aj.kp k5 _ _ (bf.mpr fun d hd=>hn' d (vZ hd)) av).snoc (At.kp (dI.putL (s5 _ _ e2)) _ _ (hn' _ (nu _)) a5)
  ·intro b o z;rw[aN (fun e=>by rw[e,hacc] at z; cases z)]
   exact s5 _ _ (s2 _ _ z)
 ·rintro ys H2 ⟨lv,av,s2,e2⟩;rw[show xs.length=ds.length from ld.symm,pY] at av;exact fin acc ys H2 hacc s2 e2 av
theorem il {K:PySem.W.Frag} {js:List Nat} {a:Addr} {xs:List V} {tl te:TE} {σ:St} {H:Hp} {Q:VK} (ds:List PyData) (hl:∀R:VK,R (.ref a) H->tl σ H R) (ha:H a=some (.lst xs))
  (ld:ds.length=xs.length) (hz:xs.length<=1000) (hn:bK ds=true)
  (step:∀(i:Nat) x d H',xs[i]?=some x->ds[i]?=some d->aP H H'->∀R:VK,(∀v H5,aP H' H5->At H5 d v->R v H5)->te (some x::b7 js σ) H' R)
  (fin:∀acc vs H',H acc=none->aP H H'->H' acc=some (.lst vs)->aj H' ds vs->Q (.ref acc) H'):gQ js (kJ K tl) te σ H Q:=by
 refine hl _ ⟨a,rfl,⟨xs,cg.of ha⟩,fun acc hacc=>?_⟩;refine⟨fun i m ys H2=>m=xs.length-i/\i<=xs.length/\ys.length=i/\aj H2 (ds.take i) ys/\aP H H2/\H2 acc=some (.lst ys),⟨_,rfl,gw _,rfl,aj.nil,aQ hacc _,aC⟩,?_⟩;rintro i m ys H2 ⟨rfl,hi,lv,av,s2,e2⟩;have ht:cg K H2 a xs:=cg.of (s2 _ _ ha);by_cases hlt:i<xs.length
 ·refine .inr ⟨⟨xs,xs[i],ht,dN hlt⟩,fun x H3 y=>?_⟩;obtain⟨e1,y⟩:=y;subst e1;have ed:ds[i]?=some ds[i]:=dN (by omega)
  refine step i x _ _ (y xs ht) ed s2 _ fun v H5 s5 a5=>⟨s5 _ _ e2,aY (by omega),xs.length-(i+1),by omega,rfl,hlt,by rw[cN,lv]; rfl,?_,?_,aC⟩
  ·rw[cD ed];have k5:dI H3 (upd H5 acc (.lst (ys++[v]))):=s5.kp.trans (dI.putL (s5 _ _ e2));have hn':=bf.mp hn;exact(aj.kp k5 _ _ (bf.mpr fun d hd=>hn' d (vZ hd)) av).snoc (At.kp (dI.putL (s5 _ _ e2)) _ _ (hn' _ (nu _)) a5)
  ·intro b o z;rw[aN (fun e=>by rw[e,hacc] at z; cases z)]
   exact s5 _ _ (s2 _ _ z)
 ·have e:i=xs.length:=by omega
  subst e;rw[show xs.length=ds.length from ld.symm,pY] at av;exact .inl ⟨⟨xs,ht,bL _⟩,fin acc ys H2 hacc s2 e2 av⟩
theorem Tu {K:PySem.W.Frag} {js:List Nat} {d:Addr} {kvs:List (Key×V)} {tl te:TE} {σ:St} {H:Hp} {Q:VK} (ms:List Int) (hl:∀R:VK,R (.ref d) H->tl σ H R) (ha:H d=some (.dK kvs)) (ld:ms.length=kvs.length) (hz:kvs.length<=1000)
  (step:∀(i:Nat) k x m H',kvs[i]?=some (k,x)->ms[i]?=some m->dI H H'->∀R:VK,(∀H5,aP H' H5->R (.int m) H5)->te (some x::b7 js σ) H' R)
  (fin:∀acc H',H acc=none->aP H H'->H' acc=some (.lst (ms.map V.int))->Q (.ref acc) H'):Ud (gQ js (U5 K tl) te) σ H Q:=by
 refine hl _ ⟨d,kvs,rfl,ha,fun o acc hacc=>?_⟩;have nd:acc≠d:=fun z=>by rw[z,aC] at hacc; cases hacc
 rw[aN nd] at hacc;refine⟨fun i m ys H2=>m=kvs.length-i/\i<=kvs.length/\ys=(ms.take i).map V.int/\H2 acc=some (.lst ys)/\H2 d=some (.rR o (.dK kvs))/\∀b u,H b=some u->b≠d->H2 b=some u,⟨_,rfl,gw _,rfl,aC,by rw[aN nd.symm,aC],fun b u z n=>by rw[aN (fun e=>by rw[e,hacc] at z; cases z),aN n]; exact z⟩,?_⟩
 rintro i m ys H2 ⟨rfl,hi,rfl,e2,f2,k2⟩;by_cases hlt:i<kvs.length
 ·refine .inr ⟨⟨f2,hlt⟩,fun x H3 y=>?_⟩;obtain⟨e1,k,hx⟩:=y;subst e1;have em:ms[i]?=some ms[i]:=dN (by omega)
  refine step i k x _ _ hx em (fun b xs z=>k2 b _ z fun e=>by rw[e,ha] at z; cases z) _ fun H5 s5=>⟨s5 _ _ e2,aY (by rw[bZ,mD]; omega),kvs.length-(i+1),by omega,rfl,hlt,?_,aC,?_,?_⟩
  ·rw[cD em,gY]; rfl
  ·rw[aN nd.symm]; exact s5 _ _ f2
  ·intro b u z n;rw[aN (fun e=>by rw[e,hacc] at z; cases z)]
   exact s5 _ _ (k2 b u z n)
 ·have e:i=kvs.length:=by omega
  subst e;refine .inl ⟨⟨f2,bL _⟩,d,kvs,o,ha,f2,?_⟩;refine fin acc _ hacc (fun b u z=>?_) (by rw[aN nd,e2,<- ld,pY])
  by_cases e:b=d
  ·subst e; rw[aC,<- z,ha]
  ·rw[aN e]; exact k2 b u z e
def ZL:V->List V->Hp->VK->Prop:=fun x xs H Q=>∃(p:Addr) (ns:List Str) (i:Str) (j:Nat),x=.ref p/\H p=some (.lst (ns.map V.str))/\xs=[.str i]/\ns.length<=1000/\ns.Nodup/\ns[j]?=some i/\Q (.int (j:Nat)) H
def IV (i:Str):Value->Bool
 | .str a _=>decide (a=i)
 | _=>false
theorem Ek {ns:List Str} (h:ns.Nodup) {i j:Nat} {x:Str} (a:ns[i]?=some x) (b:ns[j]?=some x):i=j:=by
 obtain⟨ha,ea⟩:=iT.mp a;obtain⟨hb,eb⟩:=iT.mp b;rcases Nat.lt_trichotomy i j with c | c | c
 ·exact absurd (ea.trans eb.symm) (List.pairwise_iff_getElem.mp h i j ha hb c)
 ·exact c
 ·exact absurd (eb.trans ea.symm) (List.pairwise_iff_getElem.mp h j i hb ha c)
section
variable {X:Cx}
theorem Hi:MtR X "list.index" ZL:=by
 intro pins s σ H x xs v us Q I rx rv h;obtain⟨p,ns,i,j,rfl,hp,rfl,hl,hnd,hj,q⟩:=h;cases rx;obtain⟨u,rfl,tk,rfl⟩:=rv.one;obtain⟨_,its,n,r,e⟩:=I.hok p _ hp
 have back:∀{m:Nat} {u:Value},its[m]?=some u->∃a k,ns[m]?=some a/\u=.str a k:=fun {m u} hm=>by
  obtain⟨x,h1,h2⟩:=Kf r hm;rw[cJ] at h1;cases ha:ns[m]? with
  | none=>rw[ha] at h1; cases h1
  | some a=>
   rw[ha] at h1;cases h1;obtain⟨k,rfl⟩:=(h2:∃tk,u=Value.str a tk);exact⟨a,k,rfl,rfl⟩
 have ee:∀y,y∈its.toArray->SeqAt.EqAt X.A.in1 s y (.str i tk) (IV i y):=fun y hy=>by
  obtain⟨m,hm⟩:=List.mem_iff_getElem?.mp (List.mem_toArray.mp hy);obtain⟨a,k,_,rfl⟩:=back hm;exact SeqAt.EqAt.str_str _ _ _ _
 obtain⟨u,hu,k,rfl⟩:=M4 r (x:=.str i) (by rw[cJ,hj]; rfl)
 have hlt:j<its.length:=(iT.mp hu).1;have hlen:its.length=ns.length:=by rw[<- r.length,bZ]
 refine call_meets PySem.F.slot_list_index ⟨_,e,rfl⟩ PySem.F.entry_list_index (PySem.F.args_list_index_2 _ _) (SeqAt.list_indexAt p its.toArray n none #[] (.str i tk) (IV i) j (by simpa using hlt) (by omega) ?_ ?_) ⟨e,ee,?_⟩
 ·have:=(iT.mp hu).2;show IV i its[j]=true;rw[this];show decide (i=i)=true;simp
 ·intro m hm h;have hm':m<its.length:=by simpa using hm
  obtain⟨a,k2,h1,h2⟩:=back (dN hm');show IV i its[m]=false;rw[h2];show decide (a=i)=false;refine mC fun z=>?_;subst z;have:=Ek hnd h1 hj;omega
 ·exact⟨.int (j:Nat),H,I.tok _,⟨_,rfl⟩,q⟩
end
theorem Tw {K:PySem.W.Frag} {g:TG} {js:List Nat} {a:Addr} {xs:List V} {tl te:TE} {tc:TT} {σ:St} {H:Hp} {Q:VK} (ds:List (Option PyData)) (hl:∀R:VK,R (.ref a) H->tl σ H R) (ha:H a=some (.lst xs))
  (ld:ds.length=xs.length) (hz:xs.length<=1000) (hn:∀d,some d∈ds->tL d=true)
  (step:∀(i:Nat) x o H',xs[i]?=some x->ds[i]?=some o->aP H H'->(∀R:St->Hp->Prop,R (some x::b7 js σ) H'->g x (List.replicate 1 none++b7 js σ) H' R)/\(∀R:Bool->Hp->Prop,(∀H5,aP H' H5->R o.isSome H5)->tc (some x::b7 js σ) H' R) /\
   ∀d H4,o=some d->aP H' H4->∀R:VK,(∀v H5,aP H4 H5->At H5 d v->R v H5)->te (some x::b7 js σ) H4 R)
  (fin:∀acc vs H',H acc=none->aP H H'->H' acc=some (.lst vs)->aj H' (ds.filterMap id) vs->Q (.ref acc) H'):eV 1 js (kJ K tl) g tc te σ H Q:=by
 refine hl _ ⟨a,rfl,⟨xs,cg.of ha⟩,fun acc hacc=>?_⟩;refine⟨fun i m ys H2=>m=xs.length-i/\i<=xs.length/\ys.length<=i/\aj H2 ((ds.take i).filterMap id) ys/\aP H H2/\H2 acc=some (.lst ys),⟨_,rfl,gw _,bL _,aj.nil,aQ hacc _,aC⟩,?_⟩;rintro i m ys H2 ⟨rfl,hi,lv,av,s2,e2⟩;have ht:cg K H2 a xs:=cg.of (s2 _ _ ha);by_cases hlt:i<xs.length
 ·refine .inr ⟨⟨xs,xs[i],ht,dN hlt⟩,fun x H3 y=>?_⟩;obtain⟨e1,y⟩:=y;subst e1;have ed:ds[i]?=some ds[i]:=dN (by omega)
  obtain⟨g1,g2,g3⟩:=step i x _ _ (y xs ht) ed s2;refine g1 _ ⟨⟨rfl,rfl⟩,g2 _ fun H4 s4=>?_⟩;have kk:∀{G:Hp} {zs:List V},aP H3 G->dI H3 (upd G acc (.lst zs)):=fun s=>s.kp.trans (dI.putL (s _ _ e2))
  have hnn:bK ((ds.take i).filterMap id)=true:=bf.mpr fun d hd=>by
   obtain⟨o,ho,eo⟩:=List.mem_filterMap.mp hd;exact hn d (by cases eo; exact vZ ho)
  cases eo:ds[i] with
  | none=>
   rw[aZ (by decide)]
   refine⟨xs.length-(i+1),by omega,rfl,hlt,by omega,?_,s2.trans s4,s4 _ _ e2⟩
   rw[cD ed,List.filterMap_append,eo];simpa using av.mono s4
  | some d=>
   rw[bu (by rfl)]
   refine g3 d H4 eo s4 _ fun v H5 s5 a5=>⟨s5 _ _ (s4 _ _ e2),aY (by omega),xs.length-(i+1),by omega,rfl,hlt,by rw[cN]; simp; omega,?_,?_,aC⟩
   ·rw[cD ed,List.filterMap_append,eo];exact(aj.kp (kk (s4.trans s5)) _ _ hnn av).snoc (At.kp (dI.putL (s5 _ _ (s4 _ _ e2))) _ _ (hn d (by rw[<- eo]; exact nu _)) a5)
   ·intro b o z;rw[aN (fun e=>by rw[e,hacc] at z; cases z)]
    exact s5 _ _ (s4 _ _ (s2 _ _ z))
 ·have e:i=xs.length:=by omega
  subst e;rw[show xs.length=ds.length from ld.symm,pY] at av;exact .inl ⟨⟨xs,ht,bL _⟩,fin acc ys H2 hacc s2 e2 av⟩
open SetTable (Probe runEnd leap turns bits)
def adv (m:Nat) (p:Probe):Probe:=
 if p.more>0 then { p with j:=p.j+1,more:=p.more-1 } else
 { p with j:=(leap m p.i p.perturb).1,more:=runEnd m (leap m p.i p.perturb).1-(leap m p.i p.perturb).1,i:=(leap m p.i p.perturb).1,perturb:=(leap m p.i p.perturb).2 }
def itr (m:Nat):Nat->Probe->Probe
 | 0,p=>p
 | n+1,p=>itr m n (adv m p)
structure WP (m:Nat) (p:Probe):Prop where
 i:p.i<=m
 j:p.j+p.more=runEnd m p.i
 q:p.perturb<2 ^ 64
 d:p.dummy=none
 ij:p.i<=p.j
def jmp (m i q:Nat):Probe:={ j:=i,more:=runEnd m i-i,i:=i,perturb:=q,dummy:=none }
def aaQ (xs:Array Nat):Prop:=∀(a b x y:Nat),xs[a]?=some x->xs[b]?=some y->a<b->x<y
end L2
namespace L2
open PySem PySem.Spec PyProof.Rows
open SetTable (Probe runEnd leap turns bits)
def way (m:Nat) (h:Int) (n:Nat):Nat:=(itr m n (jmp m (bits h % (m+1)) (bits h))).j
def Path (m:Nat) (occ:Nat->Prop) (h:Int) (j:Nat):Prop:=∃n,way m h n=j/\∀n',n'<n->occ (way m h n')
structure TbI (t:SetTable) (hs:List Int):Prop where
 dm:t.dummies = #[]
 ri:aaQ t.place
 sz:t.place.size=hs.length
 le:∀i j:Nat,t.place[i]?=some j->j<=t.mask
 pw:∃k,3<=k/\k<=12/\t.mask+1=2 ^ k
 fl:5*hs.length<3*t.mask
 pa:∀(i:Nat) (h:Int) (j:Nat),hs[i]?=some h->t.place[i]?=some j->Path t.mask (fun y=>∃i:Nat,t.place[i]?=some y) h j
structure TbJ (t:SetTable) (hs:List Int):Prop where
 dm:t.dummies = #[]
 ri:aaQ t.place
 sz:t.place.size=hs.length
 le:∀i j:Nat,t.place[i]?=some j->j<=t.mask
 pw:∃k,3<=k/\k<=12/\t.mask+1=2 ^ k
 fl:hs.length<=t.mask
 pa:∀(i:Nat) (h:Int) (j:Nat),hs[i]?=some h->t.place[i]?=some j->Path t.mask (fun y=>∃i:Nat,t.place[i]?=some y) h j
end L2
namespace L2
open PySem PySem.Spec PyProof.Rows
open SetTable (Probe runEnd leap turns bits)
structure OW (m:Nat) (ow:Array (Option Nat)) (hs:List Int):Prop where
 sz:ow.size=m+1
 ct:ow.toList.countP Option.isSome=hs.length
 at_:∀(l:Nat) (h:Int),hs[l]?=some h->∃j,j<=m/\ow[j]?=some (some l)/\Path m (fun y=>∃l,ow[y]?=some (some l)) h j
 lt:∀j l:Nat,ow[j]?=some (some l)->l<hs.length
 inj:∀j j' l:Nat,ow[j]?=some (some l)->ow[j']?=some (some l)->j=j'
theorem getD_none {ow:Array (Option Nat)} {j:Nat} (h:ow.getD j (some 0)=none):ow[j]?=some none:=by
 rw[Array.getD_eq_getD_getElem?] at h;cases e:ow[j]? with
 | none=>rw[e] at h; cases h
 | some o=>rw[e] at h; exact nq some h
end L2
namespace L2
open PySem PySem.Spec PyProof.Rows
open SetTable (Probe runEnd leap turns bits)
section
variable {prog:Program} {w:World} {A:Around} {E:Value->Shared->Prop} {s:Shared}
def skE (x:PyData×Addr):Int×Value:=(PN x.1,.ref x.2)
structure SkI (h:Heap) (a:Addr) (o:Obj) (es:Array (Int×Value)) (ep:Nat) (t:SetTable) (xs:List (PyData×Addr)):Prop where
 get:h.get? a=some o
 ex:o.ExactSet
 dt:o.data=.set es ep t
 es:es.toList=xs.map skE
 ti:TbI t (xs.map fun x=>PN x.1)
 nd:(xs.map (·.1)).Nodup
end
end L2
namespace L2
open PySem PySem.Spec PyProof.Rows
open SetTable (Probe runEnd leap turns bits)
section
variable {prog:Program} {w:World} {A:Around} {E:Value->Shared->Prop} {s:Shared}
end
section
variable {X:Cx} {pins:List (Addr×Obj)} {σ:St} {H:Hp} {s:Shared} {a:Addr} {ks:List PyData}
end
end L2
namespace L2
open PySem PySem.Spec PyProof.Rows
section
variable {X:Cx} {pins:List (Addr×Obj)} {σ:St} {H:Hp} {s:Shared} {a:Addr} {ks:List PyData}
end
section
variable {X:Cx}
end
end L2
namespace L2
open PySem PySem.Spec PyProof.Rows PySem.Builtin PySem.Builtin.ObjectAttr
section
variable {prog:Program} {w:World} {A:Around} {E:Value->Shared->Prop} {h:Heap} {g:Array GenState} {d:Drawn} {t:Nat} {os:OsState}
variable {nm q:Str} {C N:Addr} {bs bm bmB:List Value} {hdct:Bool} {sn:List Str} {sub:List Value} {ab:Bool} {col:Option Bool} {dd:Option Addr} {k0 k1 k2 k3 k5:Option Value} {B Bn newId nid initId inN:String} {bmN:List Value}
end
section
variable {prog:Program} {w:World} {A:Around} {E:Value->Shared->Prop} {h:Heap} {g:Array GenState} {d:Drawn} {t:Nat} {os:OsState}
variable {nm q:Str} {C N x HE:Addr} {bs bm:List Value} {sn:List Str} {sub:List Value} {ab:Bool} {col:Option Bool} {dd:Option Addr} {k0 k1 k2 k3 k5:Option Value} {newId:String} {name:Str} {v:Value} {K:PySem.W.Frag}
structure abJ (h h':Heap) (x:Addr) (o:Obj) (dx:Addr) (name:Str) (v:Value):Prop where
 at_:h'.get? x=some { o with dict:=some dx }
 new:h.get? dx=none
 ns:h'.Ns1 dx (fun y=>if y=name then some v else none)
 keep:∀b u,b≠x->h.get? b=some u->h'.get? b=some u
end
end L2
namespace L2
open PySem PySem.Spec PyProof.Rows PySem.Builtin PySem.Builtin.ObjectAttr
structure ExS (K:PySem.W.Frag) (C HE:Addr) (f:Str):Prop where
 ob:∃nm q N bs sn sub ab col dd k0 k1 k2 k3 k5,K.lookup C=some (excClassObj nm q C N bs (.ref HE::veM) true sn sub ab col dd k0 k1 k2 k3 k5 "ValueError.__new__")
 he:PySem.W.excIn K HE veM "ValueError.__new__" = true
 sa:PySem.W.findIn K (.ref C) "__setattr__" = some (some (.builtin "object.__setattr__"))
 nf:PySem.W.findIn K (.ref C) f=some none
structure ExM (K:PySem.W.Frag) (C HE f:Addr) (fl:Str):Prop where
 s:ExS K C HE fl
 init:PySem.W.findIn K (.ref C) "__init__" = some (some (.ref f))
 own:∃N,(PySem.W.clsIn K C).map (·.ns)=some N/\PySem.W.nsIn K N "__init__" = some (some (.ref f))/\PySem.W.nsOkIn K N=true
 fn:PySem.W.isFn K (.ref f)=true
 kp:PySem.W.keepIn K (.ref C)=true
section
variable {X:Cx} {C HE:Addr} {fl x:Str} {o value:Expr} {ta tv:TE} {pos pos' p:Pos}
end
section
variable {prog:Program} {w:World} {A:Around} {E:Value->Shared->Prop} {s:Shared} {K:PySem.W.Frag} {x D:Addr} {ox:Obj} {od:Option Obj}
structure ExR (K:PySem.W.Frag) (D:Addr):Prop where
 ga:PySem.W.findIn K (.ref D) "__getattribute__" = some (some (.builtin "BaseException.__getattribute__"))
 gt:PySem.W.findIn K (.ref D) "__getattr__" = some none
 fo:∀od,PySem.W.findObj K D od "__class__" = some (.bind (.builtin "getset_descriptor.__get__") (.builtin "object.__class__"))
 sb:PySem.W.subIn K (.ref D) (.type "BaseException")=some true
 ob:PySem.W.mroIn K D (.type "object")=some true
 cl:(PySem.W.clsIn K D).isSome=true
 hd:PySem.W.hasDictIn K D=true
end
section
variable {X:Cx} {pins:List (Addr×Obj)} {σ:St} {H:Hp} {s:Shared} {a C:Addr} {f:Str} {v:V}
end
structure CtX (P:Program) (w:World) (K:PySem.W.Frag) (mg:Str->Option Value) (base:Heap) (k:Nat) (C:Addr) (x:Str) (ps:List Str) (sp:Sp) where
 f:Addr
 fd:FuncData
 j:Nat
 hj:j+1<=k
 HE:Addr
 fl:Str
 G:bJ P w K mg base gf j f fd ps sp
 M:ExM K C HE f fl
 b:Binds K fd ps []
 m:mg x=some (.ref C)
section
variable {K:PySem.W.Frag} {C HE f:Addr} {fl:Str}
abbrev FnM (K:PySem.W.Frag) (x qual:Str) (st:Stmt) (f:Addr):Prop:=∃(oc:Value) (od an:Option Addr) (sl:Array (Option Value)) (kV dc pm cd ct:Value),K.lookup f=some ⟨oc,od,.func (PySem.W.fnOf x qual (cu st) (bV st) (aF st) .none kV dc pm an cd ct),sl⟩/\PySem.W.codeIn K cd qual=true/\PySem.W.keepIn K (.ref f)=true
end
end L2
namespace L2
open PySem PySem.Spec PyProof.Rows
structure Fp (K:PySem.W.Frag) (C:Addr) (m qual:Str) (st:Stmt) (f:Addr):Prop where
 me:Meth K C m f
 fn:FnM K m qual st f
theorem Fp.mk' {K:PySem.W.Frag} {C:Addr} {m qual:Str} {st:Stmt} {f:Addr} {oc:Value} {od an:Option Addr} {sl:Array (Option Value)} {kV dc pm cd ct:Value} (a:PySem.W.findIn K (.ref C) m=some (some (.ref f))) (i:PySem.W.isFn K (.ref f)=true) (l:K.lookup f=some ⟨oc,od,.func (PySem.W.fnOf m qual (cu st) (bV st) (aF st) .none kV dc pm an cd ct),sl⟩) (c:PySem.W.codeIn K cd qual=true) (k:PySem.W.keepIn K (.ref f)=true):Fp K C m qual st f:=⟨⟨a,i,k⟩,⟨oc,od,an,sl,kV,dc,pm,cd,ct,l,c,k⟩⟩
structure XM (K:PySem.W.Frag) (C:Addr) (m qual:Str) (st:Stmt) (ps:List Str) where
 f:Addr
 fd:FuncData
 F:iK K m qual st f fd
 b:Binds K fd ps []
 M:Meth K C m f
section
variable {K:PySem.W.Frag} {h:Heap} {mg:Str->Option Value} {C:Addr}
theorem Fp.has {m qual:Str} {st:Stmt} {f:Addr} (e:Fp K C m qual st f) {ps:List Str} (H:∀(kV doc pm:Value) (an:Option Addr) (cdv ct:Value) (us:List Value),us.length=ps.length->bindArgs (PySem.W.fnOf m qual (cu st) (bV st) (aF st) .none kV doc pm an cdv ct) ⟨us,[]⟩=pure (ps.zip us)):Nonempty (XM K C m qual st ps):=by
 obtain⟨M,oc,od,an,sl,kV,dc,pm,cd,ct,l,c,k⟩:=e;have F:=Hw (st:=st) l c k;exact⟨⟨_,_,F,F.binds H,M⟩⟩
def XM.ct {m qual:Str} {st:Stmt} {ps:List Str} {k:Nat} {sp:Sp} (h:XM K C m qual st ps) (c:Fq K C) (P:Program) (w:World) (base:Heap) (G:bJ P w K mg base gf k h.f h.fd ps sp):rT P w K mg base k C m ps sp:=⟨h.f,h.fd,G,h.M,c,h.b⟩
theorem Vl.ns {x:Str} {st:Stmt} {f T:Addr} {i:Int} (e:Vl K x st f T i):PySem.W.nsIn K mainGlobals x=some (some (.ref f)):=by
 obtain⟨_,_,_,_,_,_,_,_,_,_,_,_,_,_,a,_⟩:=e;exact a
structure Yq (K:PySem.W.Frag) (x qual:Str) (st:Stmt) (C:Addr):Prop where
 ns:PySem.W.nsIn K mainGlobals x=some (some (.ref C))
 c:Fq K C
 init:∃f,Mk K C f/\∃(oc oT:Value) (od an dT:Option Addr) (sl sT:Array (Option Value)) (kV dc pm cd ct:Value) (T:Addr) (nT:Nat),K.lookup f=some ⟨oc,od,.func (PySem.W.fnOf "__init__" qual (cu st) (bV st) (aF st) (.ref T) kV dc pm an cd ct),sl⟩/\PySem.W.codeIn K cd qual=true/\PySem.W.keepIn K (.ref f)=true/\K.lookup T=some ⟨oT,dT,.seq #[.none] nT,sT⟩
theorem Yq.mk' {x qual:Str} {st:Stmt} {f T:Addr} {oc oT:Value} {od an dT:Option Addr} {sl sT:Array (Option Value)} {kV dc pm cd ct:Value} {nT:Nat} (a:PySem.W.nsIn K mainGlobals x=some (some (.ref C))) (a1:PySem.W.findIn K (.ref C) "__init__" = some (some (.ref f))) (i:PySem.W.isFn K (.ref f)=true)
  (l:K.lookup f=some ⟨oc,od,.func (PySem.W.fnOf "__init__" qual (cu st) (bV st) (aF st) (.ref T) kV dc pm an cd ct),sl⟩) (c:PySem.W.codeIn K cd qual=true) (k:PySem.W.keepIn K (.ref f)=true) (e:K.lookup T=some ⟨oT,dT,.seq #[.none] nT,sT⟩)
  (pg:PySem.W.plainGet K C Str.empty=true) (hd:PySem.W.hasDictIn K C=true) (po:PySem.W.plainOver K C=true) (sa:PySem.W.findIn K (.ref C) "__setattr__" = some (some (.builtin "object.__setattr__"))) (mk:PySem.W.makesIn K C=true) (kc:PySem.W.keepIn K (.ref C)=true):Yq K x qual st C:=
 ⟨a,⟨pg,hd,po,sa⟩,f,⟨mk,a1,i,kc⟩,oc,oT,od,an,dT,sl,sT,kV,dc,pm,cd,ct,T,nT,l,c,k,e⟩
structure XQ (K:PySem.W.Frag) (mg:Str->Option Value) (x qual:Str) (st:Stmt) (ps:List Str) (C:Addr) where
 f:Addr
 fd:FuncData
 T:Addr
 F:Ij K "__init__" qual st f fd T
 b:Binds K fd ps []
 bd:Binds K fd ps [.none]
 M:Mk K C f
 m:mg x=some (.ref C)
theorem Yq.has {x qual:Str} {st:Stmt} (e:Yq K x qual st C) (X:K.In h) (G:h.Ns mainGlobals mg) {ps:List Str}
  (H:∀(T:Addr) (kV doc pm:Value) (an:Option Addr) (cdv ct:Value) (us:List Value),(us++[]).length=ps.length->∃k,bindArgs (PySem.W.fnOf "__init__" qual (cu st) (bV st) (aF st) (.ref T) kV doc pm an cdv ct) ⟨us,[]⟩=seqItems? (.ref T) >>= k/\k (some #[.none])=pure (ps.zip (us++[])))
  (H':∀(T:Addr) (kV doc pm:Value) (an:Option Addr) (cdv ct:Value) (us:List Value),(us++[Value.none]).length=ps.length->∃k,bindArgs (PySem.W.fnOf "__init__" qual (cu st) (bV st) (aF st) (.ref T) kV doc pm an cdv ct) ⟨us,[]⟩=seqItems? (.ref T) >>= k/\k (some #[.none])=pure (ps.zip (us++[.none]))):Nonempty (XQ K mg x qual st ps C):=by
 obtain⟨a,cl,f,M,oc,oT,od,an,dT,sl,sT,kV,dc,pm,cd,ct,T,nT,l,c,k,e⟩:=e;have F:Ij K "__init__" qual st f _ T:=⟨⟨_,_,_,_,_,_,_,_,_,rfl,l,c⟩,k,⟨_,_,e,rfl⟩⟩;exact⟨⟨_,_,_,F,F.binds (H T),F.binds (H' T),M,PySem.W.mg_of X G a⟩⟩
def XQ.ctE {x qual:Str} {st:Stmt} {ps:List Str} {k:Nat} {sp:Sp} (h:XQ K mg x qual st ps C) (P:Program) (w:World) (base:Heap) (G:bJ P w K mg base (QK P w) k h.f h.fd ps sp):XX P w K mg base (k+1) C x ps sp:=⟨h.f,h.fd,k,bL _,G,h.M,h.b,h.bd,h.m⟩
end
end L2
namespace K38
open PySem L2
def top (i:Nat):Stmt:=PySem.Challenge.pw_waithands_k38_begun_anew.main.body.getD i (.Pass ⟨0,0,0,0⟩)
abbrev sV:Stmt:=top 9
abbrev Gm:Stmt:=top 11
abbrev m9:Stmt:=top 12
abbrev pR:Stmt:=top 13
abbrev jU:Stmt:=top 16
abbrev pX:Stmt:=top 17
abbrev Gn:Stmt:=top 19
abbrev gU:Stmt:=top 21
abbrev m_:Stmt:=top 22
abbrev jT:Stmt:=top 23
abbrev m8:Stmt:=top 24
abbrev jV:Stmt:=top 32
abbrev jW:Stmt:=top 33
abbrev jh:Stmt:=top 34
abbrev jg:Stmt:=top 35
abbrev vJ:Stmt:=top 37
abbrev vL:Stmt:=top 38
abbrev sy:Stmt:=top 39
abbrev Ae:Stmt:=top 40
abbrev sO:Stmt:=top 41
abbrev vK:Stmt:=top 42
abbrev jf:Stmt:=top 43
abbrev sH:Stmt:=top 44
abbrev sS:Stmt:=top 45
abbrev vI:Stmt:=top 46
abbrev pW:Stmt:=top 47
abbrev sU:Stmt:=top 48
abbrev qQ:Stmt:=top 49
abbrev sG:Stmt:=top 50
abbrev Af:Stmt:=top 51
abbrev pU:Stmt:=top 52
abbrev vH:Stmt:=top 53
abbrev gW:Stmt:=inClass (top 31) 0
abbrev lJ:Stmt:=inClass (top 31) 1
abbrev gq:Stmt:=inClass (top 31) 2
abbrev fO:Stmt:=inClass (top 31) 3
abbrev lG:Stmt:=inClass (top 31) 5
abbrev jX:Stmt:=inClass (top 31) 6
abbrev ji:Stmt:=inClass (top 31) 7
abbrev jj:Stmt:=inClass (top 31) 8
abbrev jY:Stmt:=inClass (top 31) 9
abbrev jZ:Stmt:=inClass (top 31) 10
abbrev jk:Stmt:=inClass (top 31) 11
abbrev lH:Stmt:=inClass (top 31) 12
abbrev lF:Stmt:=inClass (top 31) 14
structure Bi (mg:Str->Option Value):Prop where
 all:mg "all" = none
 isinstance:mg "isinstance" = none
 str:mg "str" = none
 len:mg "len" = none
 max:mg "max" = none
 min:mg "min" = none
 sum:mg "sum" = none
 list:mg "list" = none
 reversed:mg "reversed" = none
 range:mg "range" = none
 tuple:mg "tuple" = none
 enumerate:mg "enumerate" = none
 set:mg "set" = none
 abs:mg "abs" = none
 int:mg "int" = none
 bool:mg "bool" = none
 zip:mg "zip" = none
 dict:mg "dict" = none
structure Co (K:PySem.W.Frag) (mg:Str->Option Value):Prop where
 aaM:GT2 K mg "WHATS" Ub
 OVER:Gs mg "OVER" "over"
 UNDER:Gs mg "UNDER" "under"
 EACH:Gs mg "EACH" "each"
 LETTERS:Gs mg "LETTERS" "abcdefghijklmnopqrstuvwxyz"
 Cu:Gi mg "MOST_LETTERS" 8
 Ii:Gi mg "MOST_HANDS" 12
 Cp:Gi mg "TRIPLES_SEEN" 3
 Ih:Gi mg "MOST_POSTS" 5
local macro_rules | `(tactic| walk_at "o")=>`(tactic| first | exact Or.inl rfl | exact Or.inr rfl)
local macro_rules | `(tactic| walk_at "c")=>`(tactic| exact⟨rfl,rfl,rfl,by decide +kernel,rfl,by decide +kernel,by decide +kernel⟩)
local macro_rules | `(tactic| walk_at "rd")=>`(tactic| simp only[L2.start,iB,Dt,gZ,vX,Nat.reduceAdd,Nat.reduceSub,List.replicate,List.cons_append,DN,Di,
 Ko,Rm,Y4,Y0,Ui,z9,fK,Ul,Rx,Rv,Og,RC,if_true,if_false,GC,Bool.not_true,Bool.not_false,RB,Rz,V6,V3,V5,V2,RD,RG,Oh,Ry,V4,Zx,tC,Vy,tUn,RL,rI,rU,Nk,Zd,tOr,Y9,Uo,ab9,Uh,tIf,mQ,Zb,qH,CV,tB,Nt,tSl,Iw,Ue,aao,Y8,Y_,Vw,Uk,Iu,tBM,ab_,Zc,Ug,Um,ipI,Uj,Za,tFv,tJs,tJ1,tJ0,ab8,VD,Vx,xPe,YW,xIf,abY,YQ,ab2,xPs,abZ,ab1,abX,YT,ab0,ZC,ZF,VB,V0,u_,Vz,Np,Ux,CZ])
section
variable {P:Program} {w:World} {K:PySem.W.Frag} {mg:Str->Option Value} {base:Heap} {f:Addr} {fd:FuncData} {k:Nat}
theorem Eb {X:Cx}:mG X (binaryOp .FloorDiv) (rI (fun _ j=>0<j/\j<10 ^ 60) fun i j=>.int (i / j)):=Z1 fun i j _ _ _ _ _ hc q=>by
 have h1:(0:Int)<j:=hc.1;have h2:j<10 ^ 60:=hc.2;refine PyProof.Rows.floordiv_int (by omega) (by rw[Int.fdiv_eq_ediv_of_nonneg i (by omega)]; exact q) (.inl (PyProof.noPylong_of_log2 ?_))
 have:j.natAbs<10 ^ 60:=by omega
 by_cases z:j.natAbs=0
 ·omega
 ·have h3:j.natAbs<2 ^ 1000:=Du this (by decide +kernel)
  have:=(Nat.log2_lt z).mpr h3;omega
structure jG where
 w:Str
 s:Nat
 g:Str
 n:Int
 t:Int
def xG (r:jG):PyData:=.tuple [.str r.w,.int r.s,.str r.g,.int r.n,.int r.t]
def vQ (rs:List jG):PyData:=.tuple (rs.map xG)
def vO (jl:List (List jG)):PyData:=.tuple (jl.map vQ)
structure xu (r:jG):Prop where
 w:r.w∈(["come","done","wait"]:List Str)
 s:1<=r.s/\r.s<=4
 n:0<=r.n/\r.n<=1000000000000
 e:r.g = "each" -> 1<=r.n
def gm (l:List Int):PyData:=.tuple (l.map .int)
def FZ (eU:List (List Int)):PyData:=.tuple (eU.map gm)
structure qz (eU:List (List Int)):Prop where
 n:eU.length=4
 l:∀x∈eU,x.length=3
def yI (w:Str) (s:Nat) (eU:List (List Int)):Int:=((eU.take s).map fun l=>l.getD (jR w) 0).sum
def says (r:jG) (h:Int) (eU:List (List Int)):Option Int:=
 if r.g = "each" then some ((yI r.w r.s eU+r.n*r.s-1) / (r.n*r.s))
 else if(r.g = "over" /\ yI r.w r.s eU>r.n*r.s)\/(r.g = "under" /\ yI r.w r.s eU<r.n*r.s) then some (h+r.t) else none
def Uw:Option Int->V
 | none=>.non
 | some i=>.int i
def l_ (h:Int) (eU:List (List Int)):List jG->Int
 | []=>h
 | r::rs=>match says r h eU with
  | some i=>i
  | none=>l_ h eU rs
def topOf (h:Int):List Int->Int
 | []=>h
 | b::r=>oY b r
def yD (jl:List (List jG)) (l m h:Int) (eU:List (List Int)):Int:=
 let x:=topOf h (jl.map (l_ h eU))
 let y:=if l>x then l else x
 if m<y then m else y
theorem Ke (w:Str):jR w<3:=by
 unfold jR;split
 ·decide
 ·split <;> decide
theorem bj {H:Hp} {ds:List PyData} {v:V} (h:At H (.tuple ds) v):∃a xs,v=.ref a/\H a=some (.tup xs)/\aj H ds xs:=by unfold At at h; exact h
theorem aj.aR {H:Hp} {d:PyData} {ds:List PyData} {xs:List V} (h:aj H (d::ds) xs):∃x r,xs=x::r/\At H d x/\aj H ds r:=by unfold aj at h; exact h
theorem aj.gk {H:Hp} {xs:List V} (h:aj H [] xs):xs=[]:=by unfold aj at h; exact h
theorem cO {G:Hp}:∀{cs:List Int} {xs:List V},aj G (cs.map PyData.int) xs->xs=cs.map V.int
 | [],xs,h=>by unfold aj at h; exact h
 | c::cs,xs,h=>by
  obtain⟨x,r,rfl,h1,h2⟩:=aj.aR h;unfold At at h1;rw[h1,cO h2]; rfl
theorem cY {H:Hp}:∀cs:List Int,aj H (cs.map .int) (cs.map V.int)
 | []=>aj.nil
 | c::cs=>aj.cons (At.int c) (cY cs)
theorem row_shape {H:Hp} {r:jG} {v:V} (h:At H (xG r) v):∃a,v=.ref a/\H a=some (.tup [.str r.w,.int r.s,.str r.g,.int r.n,.int r.t]):=by
 obtain⟨a,xs,rfl,h1,h2⟩:=bj h;obtain⟨x1,_,rfl,a1,h2⟩:=aj.aR h2;obtain⟨x2,_,rfl,a2,h2⟩:=aj.aR h2;obtain⟨x3,_,rfl,a3,h2⟩:=aj.aR h2;obtain⟨x4,_,rfl,a4,h2⟩:=aj.aR h2;obtain⟨x5,_,rfl,a5,h2⟩:=aj.aR h2;cases aj.gk h2;unfold At at a1 a2 a3 a4 a5;subst a1 a2 a3 a4 a5;exact⟨a,rfl,h1⟩
theorem J3 {K:PySem.W.Frag} {js:List Nat} {a:Addr} {xs:List V} {ds:List PyData} {f:Nat->Int} {tl te:TE} {σ:St} {H:Hp} {Q:VK} (hl:∀R:VK,R (.ref a) H->tl σ H R) (ha:H a=some (.tup xs)) (hd:aj H ds xs) (hz:ds.length<=sizeLine)
  (step:∀(i:Nat) x d H',aP H H'->ds[i]?=some d->At H' d x->∀R:VK,(∀dC,aP H' dC->R (.int (f i)) dC)->te (some x::b7 js σ) H' R)
  (fin:∀acc H',aP H H'->H' acc=some (.lst (((List.range ds.length).map f).map V.int))->Q (.ref acc) H'):gQ js (Lw K tl) te σ H Q:=by
 refine hl _ ⟨a,rfl,⟨xs,e_.of ha⟩,fun acc hacc=>?_⟩;have hlen:=hd.length;refine⟨fun i m ys H2=>m=ds.length-i/\i<=ds.length/\ys=((List.range i).map f).map V.int/\aP H H2/\H2 acc=some (.lst ys),⟨_,rfl,gw _,rfl,aQ hacc _,aC⟩,?_⟩;rintro i m ys H2 ⟨rfl,hi,rfl,sm,hy⟩;have ht:e_ K H2 a xs:=e_.of (sm _ _ ha);by_cases hlt:i<ds.length
 ·refine .inr ⟨⟨xs,xs[i]'(by omega),ht,dN (by omega)⟩,fun x H3 y=>?_⟩
  obtain⟨e,y⟩:=y;subst e;obtain⟨d,e1,e2⟩:=hd.get (y xs ht);refine step i x d _ sm e1 (e2.mono sm) _ fun H4 s4=>⟨s4 _ _ hy,?_,ds.length-(i+1),by omega,rfl,hlt,?_,?_,aC⟩
  ·rw[bZ,bZ,List.length_range]; omega
  ·rw[List.range_succ]; simp
  ·refine fun b o q=>?_;have nb:b≠acc:=cG q hacc;rw[aN nb];exact s4 _ _ (sm _ _ q)
 ·have e:i=ds.length:=by omega
  subst e;exact .inl ⟨⟨xs,ht,by omega⟩,fin _ _ sm hy⟩
def CT (K:PySem.W.Frag) (js:List Nat) (te:TE) (σ:St) (Q:VK) (x:V) (H1:Hp):Prop:=gQ js (Lw K (fun _ H R=>R x H)) te σ H1 Q
theorem yJ {K:PySem.W.Frag} {js:List Nat} {tl te:TE} {σ:St} {H:Hp} {Q:VK}:gQ js (Lw K tl) te σ H Q=tl σ H (CT K js te σ Q):=rfl
def Gh:Sp:=fun vs H Q _=>∃(v u:V) (h:Int) (r:jG) (eU:List (List Int)),vs=[v,.int h,u]/\At H (xG r) v/\At H (FZ eU) u/\xu r/\qz eU/\∀H',aP H H'->Q (Uw (says r h eU)) H'
theorem aea.of {v u:V} {h:Int} {r:jG} {eU:List (List Int)} {H:Hp} {Q:VK} {E:XK} (a1:At H (xG r) v) (a2:At H (FZ eU) u) (h1:xu r) (h2:qz eU) (q:∀H',aP H H'->Q (Uw (says r h eU)) H'):Gh ([v,.int h,u]++[]) H Q E:=⟨v,u,h,r,eU,rfl,a1,a2,h1,h2,q⟩
theorem xx {eU:List (List Int)} {w:Str} {s:Nat}:((List.range (eU.take s).length).map fun i=>((eU.take s).getD i []).getD (jR w) 0).sum=yI w s eU:=by
 unfold yI
 congr 1
 generalize eU.take s=l
 apply List.ext_getElem
 ·simp
 ·intro i h1 h2;simp at h1 h2;simp[lC,h2]
theorem tZ:aV ["row","hands","newest","what","span","sign","number","step","place","total","mark"] ["row","hands","newest"] (aF pR):=(by walk_at "c")
theorem Ed (F:iK K "row_says" "row_says" pR f fd) (B:Bi mg) (O:Co K mg):bJ P w K mg base gf (k+1) f fd ["row","hands","newest"] Gh:=by
 refine F.ok tZ (by rintro vs H Q E ⟨v,u,h,r,eU,rfl,_⟩; rfl) (fun cdv A outer s H vs Q E hr h=>?_)
 obtain⟨v,u,h,r,eU,rfl,a1,a2,hR,hN,q⟩:=h;have ND:=tZ.nd;refine⟨_,(aq (dX (pv 0) (bU (K:=K) (n:=5) rfl rfl (aK (aJ (i:=3) ND rfl (by walk_at "o")) (aK (aJ (i:=4) ND rfl (by walk_at "o")) (aK (aJ (i:=5) ND rfl (by walk_at "o")) (aK (aJ (i:=6) ND rfl (by walk_at "o")) (aK (aJ (i:=7) ND rfl (by walk_at "o")) bT))))))) (aq (aX (i:=8) ND rfl (by walk_at "o") (g_ (K:=K) rfl PySem.F.plainAttrs_tuple PySem.F.slot_tuple_index PySem.F.type_tuple_index (Lj (K:=K) rfl) (R1 (K:=K) rfl O.aaM) (ao (pv 3) ak))) (aq (aX (i:=9) ND rfl (by walk_at "o") (pb (gb rfl) B.sum nW (ao (cV (N':=["triple","place"]) (js:=[8]) rfl (Ao (K:=K) rfl (cQ jH (pv 2) dZ (dY (pv 4)))) qC.mk1 rfl (by decide) rfl (fun fp s' H'=>(bB bA (pv 0) (pv 1) (fun _ _=>rfl)))) ak))) (aq (aX (i:=10) ND rfl (by walk_at "o") (aU j5 (pv 6) (pv 4))) (aq (cP (bz gR (pv 5) (Aq O.EACH) (bw _)) (aH (a_ (aU Eb (aU jt (aU bC (pv 9) (pv 10)) aA) (pv 10)))) bM) (aq (cP (PW.pt (ug (PW.pt (GP (bz gR (pv 5) (Aq O.OVER) (bw _)) (Ak (bz yX (pv 9) (pv 10) (bw _))))) (nA (PW.pt (GP (bz gR (pv 5) (Aq O.UNDER) (bw _)) (Ak (bz wA (pv 9) (pv 10) (bw _)))))))) (aH (a_ (aU bC (pv 1) (pv 7)))) bM) (aH (a_ iI)))))))),?_⟩
 obtain⟨a,rfl,h1⟩:=row_shape a1;obtain⟨b,xs,rfl,h2,h3⟩:=bj a2;walk_at "rd";refine⟨a,_,rfl,e_.of h1,rfl,?_⟩;walk_at "rd";intro aw ho hw;refine⟨.inr (.inl ⟨rfl,ho⟩),aw,r.w,rfl,hw _,rfl,hR.w,?_⟩;show gQ _ _ _ _ _ _;rw[yJ];walk_at "rd";refine⟨b,xs,rfl,h2,fun p H1 s1 e1=>?_⟩;rw[BL (by omega),tu] at e1
 have h3':aj H1 ((eU.take r.s).map gm) (xs.take r.s):=by rw[List.map_take]; exact(h3.take r.s).mono s1
 have hs4:=hR.s;have htl:(eU.take r.s).length<=4:=by rw[mD]; omega
 refine J3 (a:=p) (f:=fun i=>((eU.take r.s).getD i []).getD (jR r.w) 0) (fun R hR=>hR) e1 h3' (lK (aY (by rw[bZ]; omega))) (fun i x d H' s' ed hx R hR'=>?_) (fun acc H' s' hl=>?_)
 ·rw[cJ] at ed;obtain⟨l,el,rfl⟩:=Jp.mp ed;have l3:l.length=3:=hN.l l (vZ (dM el));obtain⟨c,ys,rfl,g1,g2⟩:=bj hx;cases cO g2;show Vy _ _ _ [some _,some (.int (jR r.w:Nat))] H' R;walk_at "rd";have hw:=Ke r.w;refine Ix.tup g1 (v:=.int (l.getD (jR r.w) 0)) (bh (by rw[cJ,dN (by omega),lC,dN (by omega)]; rfl)) ?_
  have:=hR' H' (aP.refl H');have eg:(eU.take r.s).getD i []=l:=by rw[lC,el]; rfl
  rw[eg] at this;exact this
 ·have sm:=s1.trans s';rw[bZ] at hl;refine⟨acc,_,rfl,.inl hl,.inl (by have:=hR.n; omega),?_⟩
  rw[xx];have q1:=q H' sm;unfold says at q1;refine cT (fun c1=>?_) (fun c1=>?_)
  ·have c1':=tG c1;rw[bu c1'] at q1;have h1n:=hR.e c1';have hpos:0<r.n*(r.s:Int):=Int.mul_pos (by omega) (by omega)
   have hup:r.n*(r.s:Int)<=1000000000000*4:=Int.mul_le_mul hR.n.2 (by omega) (by omega) (by decide)
   exact⟨⟨hpos,Int.lt_of_le_of_lt hup (by decide)⟩,q1⟩
  ·have c1':=Dp c1;rw[aZ c1'] at q1;generalize yI r.w r.s eU=tot at q1 ⊢;generalize r.n*(r.s:Int)=mark at q1 ⊢;by_cases o1:r.g = "over"
   ·have u1:¬r.g = "under" := by rw[o1]; decide +kernel
    rw[oW o1,bu rfl];by_cases o2:mark<tot
    ·rw[oW o2,bu rfl];rw[bu (.inl ⟨o1,o2⟩)] at q1; exact q1
    ·rw[mC o2,aZ (by decide),mC u1,aZ (by decide)]
     rw[aZ (fun z=>by rcases z with z | z; exact o2 z.2; exact u1 z.1)] at q1; exact q1
   ·rw[mC o1,aZ (by decide)]
    by_cases u1:r.g = "under"
    ·rw[oW u1,bu rfl];by_cases o2:tot<mark
     ·rw[oW o2,bu rfl];rw[bu (.inr ⟨u1,o2⟩)] at q1; exact q1
     ·rw[mC o2,aZ (by decide)]
      rw[aZ (fun z=>by rcases z with z | z; exact o1 z.1; exact o2 z.2)] at q1; exact q1
    ·rw[mC u1,aZ (by decide)]
     rw[aZ (fun z=>by rcases z with z | z; exact o1 z.1; exact u1 z.1)] at q1; exact q1
def VM:Sp:=fun vs H Q _=>∃(v u:V) (h:Int) (rs:List jG) (eU:List (List Int)),vs=[v,.int h,u]/\At H (vQ rs) v/\At H (FZ eU) u/\(∀r∈rs,xu r)/\qz eU/\∀H',aP H H'->Q (.int (l_ h eU rs)) H'
theorem Rw.of {v u:V} {h:Int} {rs:List jG} {eU:List (List Int)} {H:Hp} {Q:VK} {E:XK} (a1:At H (vQ rs) v) (a2:At H (FZ eU) u) (h1:∀r∈rs,xu r) (h2:qz eU) (q:∀H',aP H H'->Q (.int (l_ h eU rs)) H'):VM ([v,.int h,u]++[]) H Q E:=⟨v,u,h,rs,eU,rfl,a1,a2,h1,h2,q⟩
theorem qO:aV ["rule","hands","newest","row","said"] ["rule","hands","newest"] (aF m9):=(by walk_at "c")
theorem Bc (F:iK K "rule_wish" "rule_wish" m9 f fd) (qu:Ct P w K mg base k "row_says" ["row","hands","newest"] Gh):bJ P w K mg base gf (k+1) f fd ["rule","hands","newest"] VM:=by
 refine F.ok qO (by rintro vs H Q E ⟨v,u,h,r,eU,rfl,_⟩; rfl) (fun cdv A outer s H vs Q E hr h=>?_)
 obtain⟨v,u,h,rs,eU,rfl,a1,a2,hR,hN,q⟩:=h;have ND:=qO.nd;refine⟨_,(aq (gA PassesOwn.never rfl (Ao (K:=K) rfl (pv 0)) (aJ (i:=3) ND rfl (by walk_at "o")) (aq (aX (i:=4) ND rfl (by walk_at "o") (pf qu hr (ao (pv 3) (ao (pv 1) (ao (pv 2) ak))))) (aH (cP (bz Ay (pv 4) iI (bw _)) (aH (a_ (pv 4))) bM)))) (aH (a_ (pv 1)))),?_⟩
 obtain⟨a,xs,rfl,h1,h2⟩:=bj a1;have hlen:=h2.length;rw[bZ] at hlen;walk_at "rd";rw[Nq];walk_at "rd";refine TK.of h1 (fun n σ H'=>∃o1 o2,σ=[some (.ref a),some (.int h),some u,o1,o2]/\aP H H'/\l_ h eU (rs.drop n)=l_ h eU rs) ⟨_,_,rfl,aP.refl H,rfl⟩ (fun n σ H' _ ⟨o1,o2,_,sm,_⟩=>sm _ _ h1) ?_ ?_
 ·rintro n x σ H1 hx ⟨o1,o2,rfl,sm,e⟩;obtain⟨d,e1,e2⟩:=h2.get hx;rw[cJ] at e1;obtain⟨r,er,rfl⟩:=Jp.mp e1
  have hn:n<rs.length:=by
   obtain⟨z,_⟩:=iT.mp er; exact z
  have ed:rs.drop n=r::rs.drop (n+1):=by
   rw[KN hn];obtain⟨z,ez⟩:=iT.mp er;rw[ez]
  rw[ed,l_] at e;walk_at "rd";refine aea.of (e2.mono sm) (a2.mono sm) (hR r (dM er)) hN fun H2 s2=>?_;have s2:=sm.trans s2;cases es:says r h eU with
  | none=>
   rw[es] at e;refine⟨trivial,?_⟩;exact⟨_,_,rfl,s2,e⟩
  | some i=>
   rw[es] at e;refine⟨trivial,?_⟩;have e:i=l_ h eU rs:=e;show Q (.int i) H2;rw[e]; exact q H2 s2
 ·rintro σ H1 ⟨o1,o2,rfl,sm,e⟩;walk_at "rd";rw[hlen,Gy] at e;have e:h=l_ h eU rs:=e;rw[e];have:=q H1 sm;rw[<- e] at this ⊢;exact this
def Oz (d0 d1 d3 d4 d5:PyData) (l m:Int) (jl:List (List jG)):PyData:=.tuple [d0,d1,.tuple [.int l,.int m],d3,d4,d5,vO jl]
def Nx:Sp:=fun vs H Q _=>∃(v u:V) (h l m:Int) (d0 d1 d3 d4 d5:PyData) (jl:List (List jG)) (eU:List (List Int)),vs=[v,.int h,u]/\At H (Oz d0 d1 d3 d4 d5 l m jl) v/\At H (FZ eU) u/\(∀rs∈jl,∀r∈rs,xu r)/\jl.length<=100/\qz eU /\
 ∀H',aP H H'->Q (.int (yD jl l m h eU)) H'
theorem Jd:aV ["post","hands","newest","least","most","wishes","wished"] ["post","hands","newest"] (aF Gm):=(by walk_at "c")
theorem Su (F:iK K "wish" "wish" Gm f fd) (B:Bi mg) (nU:Ct P w K mg base k "rule_wish" ["rule","hands","newest"] VM):bJ P w K mg base gf (k+1) f fd ["post","hands","newest"] Nx:=by
 refine F.ok Jd (by rintro vs H Q E ⟨v,u,h,l,m,d0,d1,d3,d4,d5,jl,eU,rfl,_⟩; rfl) (fun cdv A outer s H vs Q E hr h=>?_)
 obtain⟨v,u,h,l,m,d0,d1,d3,d4,d5,jl,eU,rfl,a1,a2,hR,hn,hN,q⟩:=h;have ND:=Jd.nd;refine⟨_,(aq (dX (bB bA (pv 0) aA (fun _ _=>rfl)) (bU (K:=K) (n:=2) rfl rfl (aK (aJ (i:=3) ND rfl (by walk_at "o")) (aK (aJ (i:=4) ND rfl (by walk_at "o")) bT)))) (aq (Al (i:=5) ND rfl (by walk_at "o") (N':=["rule","hands","newest"]) (js:=[1,2]) rfl (Ao (K:=K) rfl (bB bA (pv 0) aA (fun _ _=>rfl))) qC.mk2 rfl (by decide) rfl (fun fp s' H'=>(pf nU hr (ao (pv 0) (ao (pv 1) (ao (pv 2) ak)))))) (aq (aX (i:=6) ND rfl (by walk_at "o") (R5 rfl B.max (ao (pv 5) ak) (pv 1))) (aH (a_ (pb (fD rfl) B.min lU (ao (pb (k_ rfl) B.max tX (ao (pv 6) (ao (pv 3) ak))) (ao (pv 4) ak)))))))),?_⟩
 obtain⟨a,xs,rfl,h1,h2⟩:=bj a1;obtain⟨x0,_,rfl,b0,h2⟩:=aj.aR h2;obtain⟨x1,_,rfl,b1,h2⟩:=aj.aR h2;obtain⟨x2,_,rfl,b2,h2⟩:=aj.aR h2;obtain⟨x3,_,rfl,b3,h2⟩:=aj.aR h2;obtain⟨x4,_,rfl,b4,h2⟩:=aj.aR h2;obtain⟨x5,_,rfl,b5,h2⟩:=aj.aR h2;obtain⟨x6,_,rfl,b6,h2⟩:=aj.aR h2;cases aj.gk h2;obtain⟨c,ys,rfl,g1,g2⟩:=bj b2;obtain⟨y0,_,rfl,k0,g2⟩:=aj.aR g2;obtain⟨y1,_,rfl,k1,g2⟩:=aj.aR g2;cases aj.gk g2;unfold At at k0 k1;subst k0 k1;obtain⟨e,zs,rfl,m1,m2⟩:=bj b6;walk_at "rd";refine Ix.tup h1 (bh (j:=2) rfl) ⟨c,_,rfl,e_.of g1,rfl,?_⟩;walk_at "rd";rw[yJ];walk_at "rd";refine Ix.tup h1 (bh (j:=6) rfl) ?_;refine J3 (a:=e) (f:=fun i=>l_ h eU (jl.getD i [])) (fun R hR=>hR) m1 m2 (lK (aY (by rw[bZ]; omega))) (fun i x d H' s' ed hx R hR'=>?_) (fun acc H' s' hl=>?_)
 ·rw[cJ] at ed;obtain⟨rs,el,rfl⟩:=Jp.mp ed;show mQ _ _ _ _ [some x,some (.int h),some u] H' R;walk_at "rd";refine Rw.of hx (a2.mono s') (hR rs (dM el)) hN fun H2 s2=>?_;have:=hR' H2 s2;have eg:jl.getD i []=rs:=by rw[lC,el]; rfl
  rw[eg] at this;exact this
 ·rw[bZ] at hl
  have el:(List.range jl.length).map (fun i=>l_ h eU (jl.getD i []))=jl.map (l_ h eU):=by
   apply List.ext_getElem
   ·simp
   ·intro i h1 h2;simp at h1 h2;simp[lC,h2]
  rw[el] at hl;have q1:=q H' s';unfold yD topOf at q1;refine⟨acc,_,rfl,hl,fun en=>?_,fun b r er=>?_⟩
  ·rw[en] at q1;exact q1
  ·rw[er] at q1;exact q1
def uN:Sp:=fun vs H Q _=>∃(v x:V) (a:Addr) (r:Int) (b:Addr) (ns:List Int) (u:List V),v=.ref a/\vs=[v]/\H a=some (.tup (x::.int r::.ref b::u))/\H b=some (.tup (ns.map V.int))/\Q (.int (r+ns.sum)) H
theorem ue:aV ["stand"] ["stand"] (aF pX):=(by walk_at "c")
theorem Eh (F:iK K "hands_of" "hands_of" pX f fd) (B:Bi mg):bJ P w K mg base gf (k+1) f fd ["stand"] uN:=by
 refine F.ok ue (by rintro vs H Q E ⟨v,x,a,r,b,ns,u,_,rfl,_⟩; rfl) (fun cdv A outer s H vs Q E hr h=>?_)
 obtain⟨v,x,a,r,b,ns,u,rfl,rfl,h1,h2,q⟩:=h;have ND:=ue.nd;refine⟨_,(aH (a_ (aU bC (bB bA (pv 0) aA (fun _ _=>rfl)) (pb (gb rfl) B.sum nW (ao (bB bA (pv 0) aA (fun _ _=>rfl)) ak))))),?_⟩;walk_at "rd";refine⟨a,_,1,_,rfl,rfl,.inr h1,bh (j:=1) rfl,?_⟩;refine⟨a,_,2,_,rfl,rfl,.inr h1,bh (j:=2) rfl,?_⟩;refine⟨b,ns,rfl,.inr h2,?_⟩;exact⟨_,_,rfl,rfl,q⟩
theorem P_ {X:Cx}:aaR X (fun o i H Q=>∃(p:Addr) (xs:List V) (j:Nat) (v:V),o=.ref p/\i=.int j/\H p=some (.lst xs)/\xs[j]?=some v/\Q v H):=by
 intro pins s σ H o i ov iv Q I ro ri h;obtain⟨p,xs,j,v,rfl,rfl,hp,hv,q⟩:=h;cases ro;obtain⟨t,rfl⟩:=ri;obtain⟨its,r,pl,hz⟩:=I.list (cg.of (K:=X.K) hp);obtain⟨w,ew,Df⟩:=r.get hv;have hl:=r.length;have hn:=qg;have hj:j<xs.length:=by obtain⟨z,_⟩:=iT.mp hv; exact z
 exact wpAny_getItem_list pl.isList (by omega) (by omega) (by simpa using ew) ⟨v,H,I,Df,q⟩
theorem S8 {n j:Nat} (h:j<n):S9 n (j:Int)=some j:=by
 unfold S9;rw[bu (by omega),bu (by omega),tu]
structure jD where
 w:Int
 r:Int
 cs:List Int
 s:Int
 t:Int
 us:List (List Int)
def qL (x:jD):PyData:=.tuple [.int x.w,.int x.r,.tuple (x.cs.map .int),.int x.s,.int x.t,.tuple (x.us.map gm)]
structure Fj (x:jD):Prop where
 c:x.cs.length=5
 u:x.us.length=3
 l:∀y∈x.us,y.length=3
structure gM where
 p:Int
 m:Int
 lo:Int
 hi:Int
 a:Nat
 e:Int
 u:Int
 d:Int
 jl:List (List jG)
def dz (x:gM):PyData:=Oz (.int x.p) (.int x.m) (.int x.a) (.int x.e) (.tuple [.int x.u,.int x.d]) x.lo x.hi x.jl
structure QH (x:gM):Prop where
 a:x.a<=4
 p:0<=x.p/\x.p<=1000000
 n:x.jl.length<=100
 g:∀rs∈x.jl,∀r∈rs,xu r
theorem tK {H:Hp} {x:gM} {v:V} (h:At H (dz x) v):∃a b c d,v=.ref a/\H a=some (.tup [.int x.p,.int x.m,.ref b,.int x.a,.int x.e,.ref c,.ref d])/\H c=some (.tup [.int x.u,.int x.d]):=by
 obtain⟨a,xs,rfl,h1,h2⟩:=bj h;obtain⟨x0,_,rfl,b0,h2⟩:=aj.aR h2;obtain⟨x1,_,rfl,b1,h2⟩:=aj.aR h2;obtain⟨x2,_,rfl,b2,h2⟩:=aj.aR h2;obtain⟨x3,_,rfl,b3,h2⟩:=aj.aR h2;obtain⟨x4,_,rfl,b4,h2⟩:=aj.aR h2;obtain⟨x5,_,rfl,b5,h2⟩:=aj.aR h2;obtain⟨x6,_,rfl,b6,h2⟩:=aj.aR h2;cases aj.gk h2;unfold At at b0 b1 b3 b4;subst b0 b1 b3 b4;obtain⟨b,ys,rfl,_,_⟩:=bj b2;obtain⟨c,zs,rfl,g1,g2⟩:=bj b5;obtain⟨d,ws,rfl,_,_⟩:=bj b6;obtain⟨y0,_,rfl,k0,g2⟩:=aj.aR g2;obtain⟨y1,_,rfl,k1,g2⟩:=aj.aR g2;cases aj.gk g2;unfold At at k0 k1;subst k0 k1;exact⟨a,b,c,d,rfl,h1,g1⟩
theorem yM {H:Hp} {x:jD} {v:V} (h:At H (qL x) v):∃a b c,v=.ref a/\H a=some (.tup [.int x.w,.int x.r,.ref b,.int x.s,.int x.t,.ref c])/\H b=some (.tup (x.cs.map V.int))/\At H (.tuple (x.us.map gm)) (.ref c):=by
 obtain⟨a,xs,rfl,h1,h2⟩:=bj h;obtain⟨x0,_,rfl,b0,h2⟩:=aj.aR h2;obtain⟨x1,_,rfl,b1,h2⟩:=aj.aR h2;obtain⟨x2,_,rfl,b2,h2⟩:=aj.aR h2;obtain⟨x3,_,rfl,b3,h2⟩:=aj.aR h2;obtain⟨x4,_,rfl,b4,h2⟩:=aj.aR h2;obtain⟨x5,_,rfl,b5,h2⟩:=aj.aR h2;cases aj.gk h2;unfold At at b0 b1 b3 b4;subst b0 b1 b3 b4;obtain⟨b,ys,rfl,g1,g2⟩:=bj b2;cases cO g2;obtain⟨c,zs,rfl,_,_⟩:=bj b5;exact⟨a,b,c,rfl,h1,g1,b5⟩
def Ac (e s:Int):Int:=if s+1<e then s+1 else 0
def Bo (e s t:Int):Bool:=if s+1<e then false else decide (t=0)
def Ja:Sp:=fun vs H Q _=>∃(v:V) (x:gM) (s t:Int),vs=[v,.int s,.int t]/\At H (dz x) v/\∀p H',aP H H'->H' p=some (.tup [.int (Ac x.e s),.bl (Bo x.e s t)])->Q (.ref p) H'
theorem jJ:aV ["post","since","rest","every"] ["post","since","rest"] (aF gU):=(by walk_at "c")
theorem qX (F:iK K "since_and_look" "since_and_look" gU f fd):bJ P w K mg base gf (k+1) f fd ["post","since","rest"] Ja:=by
 refine F.ok jJ (by rintro vs H Q E ⟨v,x,s,t,rfl,_⟩; rfl) (fun cdv A outer s H vs Q E hr h=>?_)
 obtain⟨v,x,sn,t,rfl,a1,q⟩:=h;have ND:=jJ.nd;refine⟨_,(aq (aX (i:=3) ND rfl (by walk_at "o") (bB bA (pv 0) aA (fun _ _=>rfl))) (aq (cP (bz wA (aU bC (pv 1) aA) (pv 3) (bw _)) (aH (a_ (bx (ao (aU bC (pv 1) aA) (ao uh ak))))) bM) (aH (a_ (bx (ao aA (ao (eQ gR (pv 2) aA (bw _)) ak))))))),?_⟩
 obtain⟨a,b,c,d,rfl,h1,h2⟩:=tK a1;walk_at "rd";refine Ix.tup h1 (bh (j:=4) rfl) ?_;walk_at "rd";refine cT (fun c1=>?_) (fun c1=>?_)
 ·have c1':=tG c1;refine⟨(by decide),fun p H1 f1 s1 e1=>q p H1 s1 ?_⟩
  unfold Ac Bo;rw[bu c1',bu c1']; exact e1
 ·have c1':=Dp c1;refine⟨(by decide),fun p H1 f1 s1 e1=>q p H1 s1 ?_⟩
  unfold Ac Bo;rw[aZ c1',aZ c1']; exact e1
def BV (x:gM) (h fr:Int) (eU:List (List Int)):Int:=if fr<yD x.jl x.lo x.hi h eU-h then fr else yD x.jl x.lo x.hi h eU-h
def Dc:Sp:=fun vs H Q _=>∃(v u:V) (x:gM) (h fr:Int) (eU:List (List Int)),vs=[v,.int h,u,.int fr]/\At H (dz x) v/\At H (FZ eU) u/\QH x/\qz eU/\∀H',aP H H'->Q (.int (BV x h fr eU)) H'
theorem qP:aV ["post","hands","newest","free"] ["post","hands","newest","free"] (aF m_):=(by walk_at "c")
theorem Bd (F:iK K "change_of" "change_of" m_ f fd) (B:Bi mg) (HR:Ct P w K mg base k "wish" ["post","hands","newest"] Nx):bJ P w K mg base gf (k+1) f fd ["post","hands","newest","free"] Dc:=by
 refine F.ok qP (by rintro vs H Q E ⟨v,u,x,h,fr,eU,rfl,_⟩; rfl) (fun cdv A outer s H vs Q E hr h=>?_)
 obtain⟨v,u,x,h,fr,eU,rfl,a1,a2,hP,hN,q⟩:=h;have ND:=qP.nd;refine⟨_,(aH (a_ (pb (fD rfl) B.min lU (ao (aU jt (pf HR hr (ao (pv 0) (ao (pv 1) (ao (pv 2) ak)))) (pv 1)) (ao (pv 3) ak))))),?_⟩;walk_at "rd";refine⟨v,u,h,x.lo,x.hi,_,_,_,_,_,x.jl,eU,rfl,a1,a2,hP.g,hP.n,hN,fun H1 s1=>?_⟩;walk_at "rd";exact q H1 s1
def bF:List Int->Int->List Int×Int
 | [],n=>([],n)
 | c::cs,n=>((c-(if(bF cs n).2<c then(bF cs n).2 else c))::(bF cs n).1,(bF cs n).2-(if(bF cs n).2<c then(bF cs n).2 else c))
theorem qi:∀(cs:List Int) (n:Int),(bF cs n).1.length=cs.length
 | [],_=>rfl
 | c::cs,n=>by rw[bF,gZ,gZ,qi cs n]
def NB:Sp:=fun vs H Q _=>∃(r n:Int) (b:Addr) (cs:List Int),vs=[.int r,.ref b,.int n]/\H b=some (.tup (cs.map V.int))/\cs.length<=100/\∀p b' H',aP H H'->H' p=some (.tup [.int (r-(bF cs n).2),.ref b'])->H' b'=some (.tup ((bF cs n).1.map V.int))->Q (.ref p) H'
theorem qN:aV ["ready","called","many","left","place","gone"] ["ready","called","many"] (aF m8):=(by walk_at "c")
theorem Bb (F:iK K "sent_home" "sent_home" m8 f fd) (B:Bi mg):bJ P w K mg base gf (k+1) f fd ["ready","called","many"] NB:=by
 refine F.ok qN (by rintro vs H Q E ⟨r,n,b,cs,rfl,_⟩; rfl) (fun cdv A outer s H vs Q E hr h=>?_)
 obtain⟨r,n,b,cs,rfl,h1,hlen,q⟩:=h;have ND:=qN.nd;refine⟨_,(aq (aX (i:=3) ND rfl (by walk_at "o") (pt (Mj) B.list jQ (ao (pv 1) ak))) (aq (gA PassesOwn.never rfl (Wc B.reversed B.range (ao (pb (cH (K:=K) rfl) B.len d9 (ao (pv 3) ak)) ak)) (aJ (i:=4) ND rfl (by walk_at "o")) (aq (aX (i:=5) ND rfl (by walk_at "o") (pb (fD rfl) B.min lU (ao (bB bA (pv 3) (pv 4) (fun _ _=>rfl)) (ao (pv 2) ak)))) (aq (RT (pv 3) (pv 4) P_ (pv 5) Hs set_list) (aH (Am (i:=2) ND rfl (by walk_at "o") (pv 5) Hs))))) (aH (a_ (bx (ao (aU jt (pv 0) (pv 2)) (ao (pt (i_) B.tuple gH (ao (pv 3) ak)) ak))))))),?_⟩
 walk_at "rd";refine⟨b,_,rfl,h1,fun p1 f1=>?_⟩;have s1:=aQ f1 (HO.lst (cs.map V.int));have e1:upd H p1 (HO.lst (cs.map V.int)) p1=some (.lst (cs.map V.int)):=aC;generalize upd H p1 (HO.lst (cs.map V.int))=H1 at s1 e1 ⊢;rw[Nr];walk_at "rd";refine⟨p1,_,rfl,.inl (cg.of e1),?_⟩;rw[bZ];refine VK'.of (n:=cs.length) rfl (by omega) (fun i σ H'=>∃o4 o5:Option V,σ=[some (.int r),some (.ref b),some (.int (bF (cs.drop (cs.length-i)) n).2),some (.ref p1),o4,o5]/\H' p1=some (.lst ((cs.take (cs.length-i)++(bF (cs.drop (cs.length-i)) n).1).map V.int))/\aP H H')
  ⟨_,_,by rw[Nat.sub_zero,Gy]; rfl,by rw[Nat.sub_zero,Gy,pY]; simpa[bF] using e1,s1⟩ ?_ ?_
 ·rintro i σ H2 hi ⟨o4,o5,rfl,h2,s2⟩;obtain⟨j,ej⟩:∃j:Nat,cs.length-i=j+1:=⟨cs.length-i-1,by omega⟩
  have ej2:cs.length-(i+1)=j:=by omega
  have ei:(cs.length:Int)-1-(i:Nat)=(j:Nat):=by omega
  rw[ej] at h2;rw[ei,ej,ej2];have hj:j<cs.length:=by omega
  have dj:cs.drop j=cs[j]::cs.drop (j+1):=KN hj;have tj:cs.take (j+1)=cs.take j++[cs[j]]:=by rw[List.take_succ,dN hj]; rfl
  rw[dj,bF];generalize bF (cs.drop (j+1)) n=gh at h2 ⊢;rw[tj] at h2;generalize cs[j]=cj at h2 ⊢;have lt:(cs.take j).length=j:=by rw[mD]; omega
  have gj:((cs.take j++[cj]++gh.1).map V.int)[j]?=some (.int cj):=by
   rw[cJ,Dl,Ds (by omega),lt,Dv]; rfl
  walk_at "rd";refine Ix.lst h2 (bh gj) ?_;walk_at "rd";refine⟨p1,_,j,_,rfl,rfl,h2,gj,?_⟩;walk_at "rd";refine⟨p1,_,_,j,rfl,rfl,h2,S8 (by rw[bZ,cN,cN,lt]; show j<j+1+_; omega),?_⟩
  refine⟨_,rfl,_,_,rfl,rfl,_,_,rfl,?_,fun z o w=>?_⟩
  ·rw[aC]
   congr 2
   have e:cs.take j++[cj]++gh.1=cs.take j++(cj::gh.1):=by simp
   rw[e,gY,gY,List.set_append_right _ _ (by rw[bZ]; omega),bZ,lt,Dv]
   rfl
  ·rw[aN (cG w f1)];exact s2 _ _ w
 ·rintro σ H2 ⟨o4,o5,rfl,h2,s2⟩;rw[Dv,List.drop_zero,List.take_zero,DN] at h2;rw[Dv,List.drop_zero];walk_at "rd";refine⟨p1,_,rfl,h2,fun p3 f3=>?_⟩;have s3:=aQ f3 (HO.tup ((bF cs n).1.map V.int));have e3:upd H2 p3 (HO.tup ((bF cs n).1.map V.int)) p3=some (.tup ((bF cs n).1.map V.int)):=aC;generalize upd H2 p3 (HO.tup ((bF cs n).1.map V.int))=H3 at s3 e3 ⊢;refine⟨(by decide),fun p4 H4 f4 s4 e4=>?_⟩
  exact q p4 p3 H4 (s2.trans (s3.trans s4)) e4 (s4 _ _ e3)
def iM (x:gM) (st:jD) (ch:Int):jD:=
 if ch=0 then st else if 0<ch then { st with cs:=st.cs.take x.a++[st.cs.getD x.a 0+ch]++st.cs.drop (x.a+1),t:=x.u }
 else { st with r:=st.r-(bF st.cs (-ch)).2,cs:=(bF st.cs (-ch)).1,t:=x.d }
def Gg:Sp:=fun vs H Q _=>∃(v u:V) (x:gM) (st:jD) (ch:Int),vs=[v,u,.int ch]/\At H (dz x) v/\At H (qL st) u/\QH x/\Fj st/\∀u' H',aP H H'->At H' (qL (iM x st ch)) u'->Q u' H'
theorem mV:aV ["post","stand","change","late","rests","wait","ready","called","since","rest","seen"] ["post","stand","change"] (aF jT):=(by walk_at "c")
theorem wB (F:iK K "with_change" "with_change" jT f fd) (B:Bi mg) (nR:Ct P w K mg base k "sent_home" ["ready","called","many"] NB):bJ P w K mg base gf (k+1) f fd ["post","stand","change"] Gg:=by
 refine F.ok mV (by rintro vs H Q E ⟨v,u,x,st,ch,rfl,_⟩; rfl) (fun cdv A outer s H vs Q E hr h=>?_)
 obtain⟨v,u,x,st,ch,rfl,a1,a2,hP,hS,q⟩:=h;have ND:=mV.nd;refine⟨_,(aq (cP (bz gR (pv 2) aA (bw _)) (aH (a_ (pv 1))) bM) (aq (nD (i:=3) (j:=4) rfl ND rfl rfl (by decide) rfl rfl (ao (bB bA (pv 0) aA (fun _ _=>rfl)) (ao (bB bA (pv 0) aA (fun _ _=>rfl)) ak)) (by rfl)) (aq (dX (pv 1) (bU (K:=K) (n:=6) rfl rfl (aK (aJ (i:=5) ND rfl (by walk_at "o")) (aK (aJ (i:=6) ND rfl (by walk_at "o")) (aK (aJ (i:=7) ND rfl (by walk_at "o")) (aK (aJ (i:=8) ND rfl (by walk_at "o")) (aK (aJ (i:=9) ND rfl (by walk_at "o")) (aK (aJ (i:=10) ND rfl (by walk_at "o")) bT)))))))) (aq (cP (bz yX (pv 2) aA (bw _)) (aq (aX (i:=7) ND rfl (by walk_at "o") (aU oE (aU oE (cQ jH (pv 7) dZ (dY (pv 3))) (bx (ao (aU bC (bB bA (pv 7) (pv 3) (fun _ _=>rfl)) (pv 2)) ak))) (cQ jH (pv 7) (dY (aU bC (pv 3) aA)) dZ))) (aH (aX (i:=9) ND rfl (by walk_at "o") (bB bA (pv 4) aA (fun _ _=>rfl))))) (aq (dX (pf nR hr (ao (pv 6) (ao (pv 7) (ao (UT M5 (pv 2)) ak)))) (bU (K:=K) (n:=2) rfl rfl (aK (aJ (i:=6) ND rfl (by walk_at "o")) (aK (aJ (i:=7) ND rfl (by walk_at "o")) bT)))) (aH (aX (i:=9) ND rfl (by walk_at "o") (bB bA (pv 4) aA (fun _ _=>rfl)))))) (aH (a_ (bx (ao (pv 5) (ao (pv 6) (ao (pv 7) (ao (pv 8) (ao (pv 9) (ao (pv 10) ak))))))))))))),?_⟩
 walk_at "rd";refine cT (fun c1=>?_) (fun c1=>?_)
 ·have:=q u H (aP.refl H);unfold iM at this;rw[bu (tG c1)] at this;exact this a2
 have c1':=Dp c1;obtain⟨pa,pb,pc,pd,rfl,p1,p2⟩:=tK a1;obtain⟨sa,sb,sc,rfl,g1,g2,g3⟩:=yM a2;have ha4:=hP.a;have hc5:=hS.c;refine Ix.tup p1 (bh (j:=3) rfl) (Ix.tup p1 (bh (j:=5) rfl) ⟨_,_,rfl,?_⟩);refine⟨sa,_,rfl,e_.of g1,rfl,?_⟩;walk_at "rd";refine cT (fun c2=>?_) (fun c2=>?_)
 ·have c2':=tG c2
  have ga:(st.cs.map V.int)[x.a]?=some (.int (st.cs.getD x.a 0)):=by
   rw[cJ,dN (by omega),lC,dN (by omega)]; rfl
  refine⟨sb,_,rfl,g2,fun p3 H3 s3 e3=>?_⟩;rw[BL (by omega),tu] at e3
  refine Ix.tup (s3 _ _ g2) (bh ga) ?_;walk_at "rd";refine⟨(by decide),fun p4 H4 f4 s4 e4=>?_⟩
  refine⟨p3,p4,_,_,rfl,rfl,s4 _ _ e3,e4,lK (aY (by simp; omega)),fun p5 H5 s5 e5=>?_⟩
  walk_at "rd";have s35:=s3.trans (s4.trans s5);refine⟨sb,_,rfl,s35 _ _ g2,fun p6 H6 s6 e6=>?_⟩;rw[kZ (by omega)] at e6
  refine⟨p5,p6,_,_,rfl,rfl,s6 _ _ e5,e6,lK (aY (by simp; omega)),fun p7 H7 s7 e7=>?_⟩
  have s37:=s35.trans (s6.trans s7);walk_at "rd";refine Ix.tup (s37 _ _ p2) (bh (j:=0) rfl) ⟨(by decide),fun p8 H8 f8 s8 e8=>?_⟩
  have Zr:=s37.trans s8;refine q (.ref p8) H8 Zr ?_;unfold iM;rw[aZ c1',bu c2'];refine At.tup e8 (aj.cons (At.int _) (aj.cons (At.int _) (aj.cons (At.tup (s8 _ _ e7) ?_) (aj.cons (At.int _) (aj.cons (At.int _) (aj.cons (g3.mono Zr) aj.nil))))));have e:(((x.a:Int)+1).toNat)=x.a+1:=by omega
  rw[e];have:=cY (H:=H8) (st.cs.take x.a++[st.cs.getD x.a 0+ch]++st.cs.drop (x.a+1));simpa using this
 ·have c2':=Dp c2;refine⟨st.r,-ch,sb,st.cs,rfl,g2,by omega,fun p3 b3 H3 s3 e3 e4=>?_⟩
  refine⟨p3,_,rfl,e_.of e3,rfl,?_⟩;walk_at "rd";refine Ix.tup (s3 _ _ p2) (bh (j:=1) rfl) ⟨(by decide),fun p8 H8 f8 s8 e8=>?_⟩
  have Zr:=s3.trans s8;refine q (.ref p8) H8 Zr ?_;unfold iM;rw[aZ c1',aZ (by omega)]
  exact At.tup e8 (aj.cons (At.int _) (aj.cons (At.int _) (aj.cons (At.tup (s8 _ _ e4) (cY _)) (aj.cons (At.int _) (aj.cons (At.int _) (aj.cons (g3.mono Zr) aj.nil))))))
def jc (x:gM) (st:jD) (come:Int):Int:=if(if 0>x.m-st.w then 0 else x.m-st.w)<come then(if 0>x.m-st.w then 0 else x.m-st.w) else come
def j0 (st:jD):Int:=st.r+st.cs.getD 0 0
def mz (x:gM) (st:jD) (come:Int):Int:=if j0 st*x.p<st.w+jc x st come then j0 st*x.p else st.w+jc x st come
def ig (x:gM) (st:jD) (come:Int):List (List Int):=[come,mz x st come,st.w+jc x st come-mz x st come]::st.us
def j6 (x:gM) (st:jD) (come:Int):jD:=⟨st.w+jc x st come-mz x st come,j0 st,st.cs.drop 1++[0],Ac x.e st.s,if 0>st.t-1 then 0 else st.t-1,(ig x st come).take 3⟩
def x_ (x:gM) (st:jD) (come fr:Int):Int:=if Bo x.e st.s st.t=true then BV x (j0 st+(st.cs.drop 1++[0]).sum) fr (ig x st come) else 0
def NZ:Sp:=fun vs H Q _=>∃(v u:V) (x:gM) (st:jD) (come fr:Int),vs=[v,u,.int come,.int fr]/\At H (dz x) v/\At H (qL st) u/\QH x/\Fj st /\
 ∀p u' H',aP H H'->At H' (qL (iM x (j6 x st come) (x_ x st come fr))) u'->H' p=some (.tup [u',.int (mz x st come),.int (come-jc x st come),.int (x_ x st come fr)])->Q (.ref p) H'
theorem Je:aV ["post","stand","come","free","pace","room","wait","ready","called","since","rest","seen","taken","done","newest","looks","moved","change"] ["post","stand","come","free"] (aF Gn):=(by walk_at "c")
theorem El {x:gM} {st:jD} {come:Int} (h:Fj st):Fj (j6 x st come):=by
 refine⟨?_,?_,fun y hy=>?_⟩
 ·show(st.cs.drop 1++[0]).length=5;have:=h.c;simp; omega
 ·show((ig x st come).take 3).length=3;have:=h.u;unfold ig;simp; omega
 ·have hy:=vZ hy;unfold ig at hy;rcases bI.mp hy with z | z
  ·rw[z]; rfl
  ·exact h.l y z
theorem Jx {T:Addr} {tk:Tok} (F:Ik K "beat" "beat" Gn f fd T 12 tk) (B:Bi mg) (O:Co K mg) (fH:Ct P w K mg base k "since_and_look" ["post","since","rest"] Ja) (jO:Ct P w K mg base k "change_of" ["post","hands","newest","free"] Dc) (dh:Ct P w K mg base k "hands_of" ["stand"] uN)
  (ir:Ct P w K mg base k "with_change" ["post","stand","change"] Gg):bJ P w K mg base gf (k+1) f fd ["post","stand","come","free"] NZ:=by
 refine F.ok Je (by rintro vs H Q E ⟨v,u,x,st,come,fr,rfl,_⟩; rfl) (fun cdv A outer s H vs Q E hr h=>?_)
 obtain⟨v,u,x,st,come,fr,rfl,a1,a2,hP,hS,q⟩:=h;have ND:=Je.nd;refine⟨_,(aq (dX (cQ jH (pv 0) dZ (dY aA)) (bU (K:=K) (n:=2) rfl rfl (aK (aJ (i:=4) ND rfl (by walk_at "o")) (aK (aJ (i:=5) ND rfl (by walk_at "o")) bT)))) (aq (dX (pv 1) (bU (K:=K) (n:=6) rfl rfl (aK (aJ (i:=6) ND rfl (by walk_at "o")) (aK (aJ (i:=7) ND rfl (by walk_at "o")) (aK (aJ (i:=8) ND rfl (by walk_at "o")) (aK (aJ (i:=9) ND rfl (by walk_at "o")) (aK (aJ (i:=10) ND rfl (by walk_at "o")) (aK (aJ (i:=11) ND rfl (by walk_at "o")) bT)))))))) (aq (Am (i:=7) ND rfl (by walk_at "o") (bB bA (pv 8) aA (fun _ _=>rfl)) Px) (aq (aX (i:=8) ND rfl (by walk_at "o") (aU oE (cQ jH (pv 8) (dY aA) dZ) (bx (ao aA ak)))) (aq (aX (i:=12) ND rfl (by walk_at "o") (pb (fD rfl) B.min lU (ao (pv 2) (ao (pb (k_ rfl) B.max tX (ao (aU jt (pv 5) (pv 6)) (ao aA ak))) ak)))) (aq (Am (i:=6) ND rfl (by walk_at "o") (pv 12) Px) (aq (aX (i:=13) ND rfl (by walk_at "o") (pb (fD rfl) B.min lU (ao (pv 6) (ao (aU j5 (pv 7) (pv 4)) ak)))) (aq (Am (i:=6) ND rfl (by walk_at "o") (pv 13) Hs) (aq (aX (i:=14) ND rfl (by walk_at "o") (aU oE (bx (ao (bx (ao (pv 2) (ao (pv 13) (ao (pv 6) ak)))) ak)) (pv 11))) (aq (dX (pf fH hr (ao (pv 0) (ao (pv 9) (ao (pv 10) ak)))) (bU (K:=K) (n:=2) rfl rfl (aK (aJ (i:=9) ND rfl (by walk_at "o")) (aK (aJ (i:=15) ND rfl (by walk_at "o")) bT)))) (aq (aX (i:=16) ND rfl (by walk_at "o") (bx (ao (pv 6) (ao (pv 7) (ao (pv 8) (ao (pv 9) (ao (pb (k_ rfl) B.max tX (ao (aU jt (pv 10) aA) (ao aA ak))) (ao (cQ jH (pv 14) dZ (dY (Ar O.Cp))) ak)))))))) (aq (aX (i:=17) ND rfl (by walk_at "o") (d_ (fQ (pv 15)) (pf jO hr (ao (pv 0) (ao (pf dh hr (ao (pv 16) ak)) (ao (pv 14) (ao (pv 3) ak))))) aA)) (aH (a_ (bx (ao (pf ir hr (ao (pv 0) (ao (pv 16) (ao (pv 17) ak)))) (ao (pv 13) (ao (aU jt (pv 2) (pv 12)) (ao (pv 17) ak))))))))))))))))))),?_⟩
 obtain⟨pa,pb,pc,pd,rfl,p1,p2⟩:=tK a1;obtain⟨sa,sb,sc,rfl,g1,g2,g3⟩:=yM a2;have hc5:=hS.c;have hpp:=hP.p
 have gc0:(st.cs.map V.int)[0]?=some (.int (st.cs.getD 0 0)):=by
  rw[cJ,dN (by omega),lC,dN (by omega)]; rfl
 walk_at "rd";refine⟨pa,_,rfl,p1,fun q1 H1 s1 e1=>?_⟩;rw[BL (by decide)] at e1
 replace e1:H1 q1=some (.tup [.int x.p,.int x.m]):=e1
 refine⟨q1,_,rfl,e_.of e1,rfl,?_⟩;walk_at "rd";refine⟨sa,_,rfl,e_.of (s1 _ _ g1),rfl,?_⟩;walk_at "rd";refine⟨_,rfl,Ix.tup (s1 _ _ g2) (bh gc0) ⟨_,_,rfl,rfl,?_⟩⟩;refine⟨sb,_,rfl,s1 _ _ g2,fun q2 H2 s2 e2=>?_⟩;rw[kZ (by decide)] at e2
 have s12:=s1.trans s2;refine⟨(by decide),fun q3 H3 f3 s3 e3=>?_⟩
 refine⟨q2,q3,_,_,rfl,rfl,s3 _ _ e2,e3,lK (aY (by simp; omega)),fun q4 H4 s4 e4=>?_⟩
 have Rt:=s12.trans (s3.trans s4);walk_at "rd";refine⟨_,rfl,_,_,rfl,rfl,.inr (by omega),_,rfl,_,_,rfl,rfl,(by decide),fun q5 H5 f5 s5 e5=>⟨(by decide),fun q6 H6 f6 s6 e6=>?_⟩⟩
 replace e5:H5 q5=some (.tup [.int come,.int (mz x st come),.int (st.w+jc x st come-mz x st come)]):=e5
 obtain⟨sc',us',ec,gu,au⟩:=bj g3;cases ec;have V1:=Rt.trans (s5.trans s6);have lus:us'.length=3:=by have:=au.length; rw[bZ,hS.u] at this; exact this
 refine⟨q6,sc,_,_,rfl,rfl,e6,V1 _ _ gu,lK (aY (by simp; omega)),fun q7 H7 s7 e7=>?_⟩
 have s17:=V1.trans s7;have a7:At H7 (FZ (ig x st come)) (.ref q7):=At.tup e7 (aj.cons (At.tup ((s6.trans s7) _ _ e5) (cY [come,mz x st come,st.w+jc x st come-mz x st come])) (au.mono s17))
 have hN:qz (ig x st come):=⟨by show st.us.length+1=4; rw[hS.u],fun y hy=>by
  rcases bI.mp hy with z | z
  ·rw[z]; rfl
  ·exact hS.l y z⟩
 refine⟨.ref pa,x,st.s,st.t,rfl,a1.mono s17,fun q8 H8 s8 e8=>?_⟩;refine⟨q8,_,rfl,e_.of e8,rfl,?_⟩;walk_at "rd";have s18:=s17.trans s8;obtain⟨q7',nws,en,gn,an⟩:=bj (a7.mono s8);cases en;refine⟨q7,_,rfl,gn,fun q9 H9 s9 e9=>?_⟩;rw[BL (by decide)] at e9
 have s19:=s18.trans s9;refine⟨(by decide),fun ZR J_ f10 Ag e10=>?_⟩
 have Zv:=s19.trans Ag;have e4':H4 q4=some (.tup ((st.cs.drop 1++[0]).map V.int)):=by rw[e4]; simp
 have Zq:aP H4 J_:=s5.trans (s6.trans (s7.trans (s8.trans (s9.trans Ag))))
 have am:At J_ (qL (j6 x st come)) (.ref ZR):=by
  refine At.tup e10 (aj.cons (At.int _) (aj.cons (At.int _) (aj.cons (At.tup (Zq _ _ e4') (cY _)) (aj.cons (At.int _) (aj.cons (At.int _) (aj.cons (At.tup (Ag _ _ e9) ?_) aj.nil))))));show aj J_ (((ig x st come).take 3).map gm) _;rw[List.map_take];exact(an.take 3).mono (s9.trans Ag)
 have fin:∀(c:Int) (Vk:Hp),x_ x st come fr=c->aP J_ Vk->Gg [.ref pa,.ref ZR,.int c] Vk (fun y H1=>4<=sizeLine/\∀p H',H1 p=none->aP H1 H'->H' p=some (.tup [y,.int (mz x st come),.int (come-jc x st come),.int c])->Q (.ref p) H') E0:=fun c Vk ec QQ=>by
  subst ec;have Zu:=Zv.trans QQ;exact⟨.ref pa,.ref ZR,x,j6 x st come,_,rfl,a1.mono Zu,am.mono QQ,hP,El hS,fun u' H12 acs a12=>⟨(by decide),fun q13 H13 f13 vN Xn=>q q13 u' H13 (Zu.trans (acs.trans vN)) (a12.mono vN) Xn⟩⟩
 refine cT (fun c1=>?_) (fun c1=>?_)
 ·refine⟨.ref ZR,_,ZR,j0 st,q4,st.cs.drop 1++[0],_,rfl,rfl,e10,Zq _ _ e4',?_⟩;refine⟨.ref pa,.ref q7,x,_,fr,ig x st come,rfl,a1.mono Zv,a7.mono (s8.trans (s9.trans Ag)),hP,hN,fun Vk QQ=>?_⟩;exact fin _ Vk (by unfold x_; rw[bu c1]) QQ
 ·exact fin 0 J_ (by unfold x_; rw[aZ (by rw[c1]; decide)]) (aP.refl _)
local macro_rules | `(tactic| walk_at "cap")=>`(tactic| simp only[b7,iB,Dt,List.getElem?_cons_zero,List.getElem?_cons_succ,Option.join_some])
def Ny (K:PySem.W.Frag):Sp:=fun vs H Q _=>∃(s:Addr) (ns:List Int) (i:Int),vs=[.ref s,.int i]/\cg K H s (ns.map V.int)/\0<=i/\i<=1000/\∀p H',H p=none->aP H H'->Tp H' p 0->Q (.ref p) H'
theorem yO:aV ["_law_script","_law_k","_law_cell"] ["_law_script","_law_k"] (aF vJ):=(by walk_at "c")
theorem Ld (F:iK K "_law_tape" "_law_tape" vJ f fd) (B:Bi mg):bJ P w K mg base gf (k+1) f fd ["_law_script","_law_k"] (Ny K):=by
 refine F.ok yO (by rintro vs H Q E ⟨a,ns,i,rfl,_⟩; rfl) (fun cdv A outer s H vs Q E hr h=>?_)
 obtain⟨a,ns,i,rfl,hS,h0,h1,q⟩:=h;have ND:=yO.nd;refine⟨_,(aq (aX (i:=2) ND rfl (by walk_at "o") (d_ (bz wA (pv 1) (pb (cH (K:=K) rfl) B.len d9 (ao (pv 0) ak)) (bw _)) (bB JL (pv 0) (pv 1) (fun _ _=>rfl)) aA)) (aH (a_ (O2 (ao (aU j5 (pb (Ey) B.abs Qx (ao (pv 2) ak)) (pt (zR) B.int Ia (ao (eQ ZZ (pb (Ey) B.abs Qx (ao (pv 2) ak)) (aU qb aA aA) (bw _)) ak))) (ao (aU bC (aU bC (aU lM (pv 2) aA) (aU j5 aA (pv 1))) aA) (ao aA ak))))))),?_⟩
 walk_at "rd";refine⟨a,_,rfl,.inl hS,?_⟩;show ∃i_1 j,V.int i=V.int i_1/\V.int ((ns.map V.int).length:Int)=V.int j/\_;walk_at "rd";have Xw:∀c:Int,0<=(if c<0 then -c else c):=fun c=>by split <;> omega
 have fin:∀(c x y:Int),x=(if c<0 then -c else c)*(if decide (10 ^ Int.toNat 18<=(if c<0 then -c else c))=true then 1 else 0)->y=c % 2305843009213693951+39373*i+17->∀p,H p=none->Q (.ref p) (upd H p (.lst [.int x,.int y,.int 0])):=fun c x y ex ey p hp=>by
  have hx:0<=x:=by
   rw[ex];have nn:=Xw c;generalize (if c<0 then -c else c)=u at nn ⊢
   split
   ·rw[Int.mul_one]; exact nn
   ·rw[Int.mul_zero]; exact Int.le_refl 0
  have h2:=vW c (show(2305843009213693951:Int)≠0 by decide)
  have h3:=Aj c (show(0:Int)<2305843009213693951 by decide)
  exact q p _ hp (aQ hp _) ⟨x,y,0,aC,hx,by omega,by omega,Int.le_refl 0,Int.le_refl 0⟩
 have cm:∀(c:Int) (b:Bool),Ua c (if b=true then 1 else 0):=fun c b=>.inr (by cases b <;> decide)
 refine cT (fun c1=>?_) (fun c1=>?_)
 ·have c1':=tG c1;have hi:i.toNat<ns.length:=by rw[bZ] at c1'; omega
  refine⟨a,_,i,.int (ns[i.toNat]),rfl,rfl,hS,?_,?_⟩
  ·have:=bh (xs:=ns.map V.int) (j:=i.toNat) (v:=.int (ns[i.toNat])) (by rw[cJ,dN hi]; rfl)
   rwa [show((i.toNat:Nat):Int)=i by omega] at this
  ·walk_at "rd";refine⟨⟨by decide,by decide,by decide⟩,cm _ _,by decide,.inl (by decide),(by show 3<=sizeLine; decide),fun p hp=>?_⟩
   exact fin _ _ _ rfl rfl p hp
 ·refine⟨⟨by decide,by decide,by decide⟩,cm _ _,by decide,.inl (by decide),(by show 3<=sizeLine; decide),fun p hp=>?_⟩
  exact fin 0 _ _ rfl rfl p hp
def fM:Sp:=fun vs H Q _=>∃(a:Addr) (m:Int) (n:Nat),vs=[.ref a,.int m]/\Tp H a n/\n<=1000000000/\0<m/\m<1000000000000000/\∀v H',0<=v->v<m->Tp H' a (n+1)->SX a H H'->Q (.int v) H'
theorem yQ:aV ["_law_tape_here","_law_many","_law_found","_law_once","_law_twice"] ["_law_tape_here","_law_many"] (aF vL):=(by walk_at "c")
theorem Lf (F:iK K "_law_draw" "_law_draw" vL f fd) (B:Bi mg):bJ P w K mg base gf (k+1) f fd ["_law_tape_here","_law_many"] fM:=by
 refine F.ok yQ (by rintro vs H Q E ⟨a,m,n,rfl,_⟩; rfl) (fun cdv A outer s H vs Q E hr h=>?_)
 obtain⟨a,m,n,rfl,⟨x,y,z,hT,hx,hy,hy2,hz,hz2⟩,hn,hm,hm2,q⟩:=h;have ND:=yQ.nd;refine⟨_,(aq (cP (bz yX (bB bA (pv 0) aA (fun _ _=>rfl)) aA (bw _)) (aq (aX (i:=2) ND rfl (by walk_at "o") (aU lM (bB bA (pv 0) aA (fun _ _=>rfl)) (pv 1))) (aq (dX (aU Eb (bB bA (pv 0) aA (fun _ _=>rfl)) (pv 1)) (p_ (pv 0) aA set_list)) (aH (a_ (pv 2))))) bM) (aq (dX (aU bC (bB bA (pv 0) aA (fun _ _=>rfl)) aA) (p_ (pv 0) aA set_list)) (aq (aX (i:=3) ND rfl (by walk_at "o") (aU lM (aU qb (aU bC (bB bA (pv 0) aA (fun _ _=>rfl)) (aU j5 aA (bB bA (pv 0) aA (fun _ _=>rfl)))) aA) aA)) (aq (aX (i:=4) ND rfl (by walk_at "o") (aU lM (aU j5 (aU bC (pv 3) (bB bA (pv 0) aA (fun _ _=>rfl))) (aU bC (aU bC (aU lM (pv 3) aA) aA) (bB bA (pv 0) aA (fun _ _=>rfl)))) aA)) (aH (a_ (aU lM (aU Sd (aU lM (aU bC (aU j5 (pv 4) aA) (pv 3)) aA) aA) (pv 1)))))))),?_⟩
 walk_at "rd";refine Ix.lst hT (bh (j:=0) rfl) ?_;walk_at "rd";refine cT (fun c1=>?_) (fun c1=>?_)
 ·refine Ix.lst hT (bh (j:=0) rfl) ?_;walk_at "rd";refine⟨hm,Ix.lst hT (bh (j:=0) rfl) ?_⟩;walk_at "rd";refine⟨⟨hm,Int.lt_trans hm2 (by decide)⟩,a,_,0,0,rfl,rfl,hT,rfl,?_⟩
  refine q _ _ (vW _ (by omega)) (Aj _ hm) ⟨x / m,y,z,aC,Int.ediv_nonneg hx (by omega),hy,hy2,hz,by omega⟩ SX.upd
 ·refine Ix.lst hT (bh (j:=2) rfl) ?_;walk_at "rd";refine⟨a,_,2,2,rfl,rfl,hT,rfl,?_⟩;have hT2:upd H a (.lst [.int x,.int y,.int (z+1)]) a=some (.lst [.int x,.int y,.int (z+1)]):=aC;show RK (V.ref a) (V.int 1) (upd H a (.lst [.int x,.int y,.int (z+1)])) _;generalize eH:upd H a (.lst [.int x,.int y,.int (z+1)])=H2 at hT2 ⊢;have sx:SX a H H2:=by rw[<- eH]; exact SX.upd
  refine Ix.lst hT2 (bh (j:=1) rfl) (Ix.lst hT2 (bh (j:=2) rfl) ?_);walk_at "rd";refine⟨.inl (by decide),⟨by decide,by decide,by omega⟩,by decide,Ix.lst hT2 (bh (j:=2) rfl) ?_⟩
  generalize eo:(y+39373*(z+1)) ^ Int.toNat 5 % 2147483647=o;have o1:0<=o:=by rw[<- eo]; exact vW _ (by decide)
  have o2:o<2147483647:=by rw[<- eo]; exact Aj _ (by decide)
  walk_at "rd";refine⟨by decide,Ix.lst hT2 (bh (j:=2) rfl) ?_⟩
  walk_at "rd";have m1:=vW o (show(40009:Int)≠0 by decide)
  have m2:=Aj o (show(0:Int)<40009 by decide)
  refine⟨.inl (by omega),by decide,?_⟩
  generalize et:(o+(z+1))*(o % 40009+7+(z+1)) % 2147483629=t;have t1:0<=t:=by rw[<- et]; exact vW _ (by decide)
  have t2:t<2147483629:=by rw[<- et]; exact Aj _ (by decide)
  refine⟨.inl (by omega),by decide,⟨by decide,by decide⟩,hm,?_⟩
  exact q _ _ (vW _ (by omega)) (Aj _ hm) ⟨x,y,z+1,hT2,hx,hy,hy2,by omega,by omega⟩ sx
theorem b_.of {a:Addr} {m:Int} {n:Nat} {H:Hp} {Q:VK} {E:XK} (t:Tp H a n) (hn:n<=1000000000) (h1:0<m) (h2:m<1000000000000000) (q:∀v H',0<=v->v<m->Tp H' a (n+1)->SX a H H'->Q (.int v) H'):fM ([.ref a,.int m]++[]) H Q E:=⟨a,m,n,rfl,t,hn,h1,h2,q⟩
def n_:Sp:=fun vs H Q _=>∃(a:Addr) (n:Nat),vs=[.ref a]/\Tp H a n/\n<=900000000/\∀v H',0<=v->v<=1000000000000->Tp H' a (n+4)->SX a H H'->Q (.int v) H'
theorem zY.of {a:Addr} {n:Nat} {H:Hp} {Q:VK} {E:XK} (t:Tp H a n) (hn:n<=900000000) (q:∀v H',0<=v->v<=1000000000000->Tp H' a (n+4)->SX a H H'->Q (.int v) H'):n_ ([.ref a]++[]) H Q E:=⟨a,n,rfl,t,hn,q⟩
theorem vq:aV ["_law_tape_here","_law_way","_law_great"] ["_law_tape_here"] (aF sy):=(by walk_at "c")
theorem G8 (F:iK K "_law_units" "_law_units" sy f fd) (B:Bi mg) (aM:Ct P w K mg base k "_law_draw" ["_law_tape_here","_law_many"] fM):bJ P w K mg base gf (k+1) f fd ["_law_tape_here"] n_:=by
 refine F.ok vq (by rintro vs H Q E ⟨a,n,rfl,_⟩; rfl) (fun cdv A outer s H vs Q E hr h=>?_)
 obtain⟨a,n,rfl,tp,hn,q⟩:=h;have ND:=vq.nd;refine⟨_,(aq (aX (i:=1) ND rfl (by walk_at "o") (pf aM hr (ao (pv 0) (ao aA ak)))) (aq (cP (bz wA (pv 1) aA (bw _)) (aH (a_ (pf aM hr (ao (pv 0) (ao aA ak))))) bM) (aq (cP (bz gR (pv 1) aA (bw _)) (aH (a_ (pf aM hr (ao (pv 0) (ao aA ak))))) bM) (aq (aX (i:=2) ND rfl (by walk_at "o") (aU bC (aU j5 (pf aM hr (ao (pv 0) (ao (aU qb aA aA) ak))) (aU qb aA aA)) (pf aM hr (ao (pv 0) (ao (aU qb aA aA) ak))))) (aH (a_ (d_ (bz gR (pv 1) aA (bw _)) (pv 2) (aU jt (aU qb aA aA) (aU lM (pv 2) aA))))))))),?_⟩
 walk_at "rd";refine b_.of tp (by omega) (by decide) (by decide) fun v1 H1 l1 u1 t1 s1=>?_
 walk_at "rd";refine cT (fun c1=>?_) (fun c1=>?_)
 ·refine b_.of t1 (by omega) (by decide) (by decide) fun v2 H2 l2 u2 t2 s2=>?_
  exact q v2 H2 l2 (by omega) (t2.mono (by omega)) (s1.trans s2)
 ·refine cT (fun c2=>?_) (fun c2=>?_)
  ·refine b_.of t1 (by omega) (by decide) (by decide) fun v2 H2 l2 u2 t2 s2=>?_
   exact q v2 H2 l2 (by omega) (t2.mono (by omega)) (s1.trans s2)
  ·refine⟨⟨by decide,by decide,by decide⟩,?_⟩
   refine b_.of t1 (by omega) (by decide) (by decide) fun v2 H2 l2 u2 t2 s2=>?_
   walk_at "rd";have e6:(10:Int) ^ Int.toNat 6=1000000:=by decide
   have Va:(10:Int) ^ Int.toNat 12=1000000000000:=by decide
   rw[e6] at u2;refine⟨⟨by decide,by decide,by decide⟩,.inr (by decide),⟨by decide,by decide,by decide⟩,?_⟩
   refine b_.of t2 (by omega) (by decide) (by decide) fun v3 H3 l3 u3 t3 s3=>?_
   rw[e6] at u3;walk_at "rd";rw[e6,Va];refine cT (fun c3=>?_) (fun c3=>?_)
   ·exact q _ H3 (by omega) (by omega) (t3.mono (by omega)) (s1.trans (s2.trans s3))
   ·have m1:=vW (v2*1000000+v3) (show(3:Int)≠0 by decide)
    have m2:=Aj (v2*1000000+v3) (show(0:Int)<3 by decide)
    exact⟨⟨by decide,by decide,by decide⟩,by decide,q _ H3 (by omega) (by omega) (t3.mono (by omega)) (s1.trans (s2.trans s3))⟩
def U12 (i:Int):Prop:=0<=i/\i<=1000000000000
def Vh (u:List Int):Prop:=∃a b c,u=[a,b,c]/\U12 a/\U12 b/\U12 c
structure StL (x:jD):Prop where
 w:U12 x.w
 r:0<=x.r
 c:x.cs.length=5
 cn:∀y∈x.cs,0<=y
 sm:x.r+x.cs.sum<=12
 s:0<=x.s/\x.s<=5
 t:0<=x.t/\x.t<=9
 u:x.us.length=3
 ul:∀y∈x.us,Vh y
def I_:Sp:=fun vs H Q _=>∃(a:Addr) (n:Nat),vs=[.ref a]/\Tp H a n/\n<=100000000/\∀p x H',StL x->At (hid a H') (qL x) (.ref p)->Tp H' a (n+60)->SX a H H'->Q (.ref p) H'
theorem vA:aV ["_law_tape_here","_law_left","_law_called","_law_k","_law_seen"] ["_law_tape_here"] (aF sH):=(by walk_at "c")
theorem G_ (F:iK K "_law_stand" "_law_stand" sH f fd) (B:Bi mg) (aM:Ct P w K mg base k "_law_draw" ["_law_tape_here","_law_many"] fM) (eF:Ct P w K mg base k "_law_units" ["_law_tape_here"] n_) :
  bJ P w K mg base gf (k+1) f fd ["_law_tape_here"] I_:=by
 refine F.ok vA (by rintro vs H Q E ⟨a,n,rfl,_⟩; rfl) (fun cdv A outer s H vs Q E hr h=>?_)
 obtain⟨a,n,rfl,tp,hn,q⟩:=h;have ND:=vA.nd;refine⟨_,(aq (nD (i:=1) (j:=2) rfl ND rfl rfl (by decide) rfl rfl (ao aA (ao (O2 ak) ak)) (by rfl)) (aq (gA PassesOwn.never rfl (dF (by rfl) B.range (ao aA ak)) (aJ (i:=3) ND rfl (by walk_at "o")) (aq (bO (g_ (K:=K) rfl PySem.F.plainAttrs_list PySem.F.slot_list_append PySem.F.type_list_append fC (pv 2) (ao (pf aM hr (ao (pv 0) (ao (aU bC (pb (fD rfl) B.min lU (ao (pv 1) (ao aA ak))) aA) ak))) ak))) (aH (aX (i:=1) ND rfl (by walk_at "o") (aU jt (pv 1) (bB bA (pv 2) (pv 3) (fun _ _=>rfl))))))) (aq (aX (i:=4) ND rfl (by walk_at "o") (pt (i_) B.tuple gH (ao (cV (N':=["_law_k","_law_tape_here"]) (js:=[0]) rfl (dF (by rfl) B.range (ao aA ak)) qC.mk1 rfl (by decide) rfl (fun fp s' H'=>(OJ (ao (pf eF hr (ao (pv 1) ak)) (ao (pf eF hr (ao (pv 1) ak)) (ao (pf eF hr (ao (pv 1) ak)) ak)))))) ak))) (aH (a_ (OJ (ao (pf eF hr (ao (pv 0) ak)) (ao (pf aM hr (ao (pv 0) (ao (aU bC (pv 1) aA) ak))) (ao (pt (i_) B.tuple gH (ao (pv 2) ak)) (ao (pf aM hr (ao (pv 0) (ao aA ak))) (ao (pf aM hr (ao (pv 0) (ao aA ak))) (ao (pv 4) ak)))))))))))),?_⟩
 walk_at "rd";refine⟨gw _,fun p hp=>⟨_,_,rfl,?_⟩⟩;have pa:p≠a:=tp.ne hp;refine aap (n:=5) (fun R hR=>hR) (by decide) (fun i σ H'=>∃(left:Int) (cs:List Int) (o3:Option V),σ=[some (.ref a),some (.int left),some (.ref p),o3,none]/\H' p=some (.lst (cs.map V.int))/\cs.length=i/\(∀c∈cs,0<=c)/\cs.sum+left=12/\(0<=left/\left<=12)/\Tp H' a (n+i)/\SX a H H')
  ⟨12,[],none,rfl,aC,rfl,fun c h=>by simp at h,rfl,⟨by decide,by decide⟩,tp.same (aQ hp _),SX.of (aQ hp _)⟩ ?_ ?_
 ·rintro i σ H1 hi ⟨left,cs,o3,rfl,h1,h2,h3,h4,h5,t1,s1⟩;walk_at "rd";refine⟨.inl ⟨rfl,_,cg.of h1⟩,?_⟩;refine b_.of t1 (by omega) (by split <;> omega) (by split <;> omega) fun v H2 l2 u2 t2 s2=>?_
  have h1':=s2.get pa h1;refine⟨p,_,_,rfl,rfl,h1',by rw[bZ]; exact aY (by omega),?_⟩
  have e:(cs.map V.int++[V.int v])=(cs++[v]).map V.int:=by simp
  rw[e];refine Ix.lst aC (v:=.int v) ?_ ?_
  ·have:=bh (xs:=(cs++[v]).map V.int) (j:=i) (v:=.int v) (by subst h2; simp)
   rw[Int.zero_add]; exact this
  ·walk_at "rd";have lv:v<=left:=by split at u2 <;> omega
   refine⟨left-v,cs++[v],_,rfl,aC,by rw[cN,h2]; rfl,fun c hc=>?_,?_,by omega,?_,?_⟩
   ·rcases fZ.mp hc with z | z
    ·exact h3 c z
    ·rw[gJ.mp z]; exact l2
   ·rw[List.sum_append]; simp; omega
   ·exact t2.dR pa
   ·exact(s1.trans s2).dR hp pa
 ·rintro σ H1 ⟨left,cs,o3,rfl,h1,h2,h3,h4,h5,t1,s1⟩;walk_at "rd";refine Ql (n:=3) (fun R hR=>hR) (by decide) fun acc hacc=>?_
  have ca:acc≠a:=t1.ne hacc;refine⟨fun i ys H'=>∃us:List (List Int),us.length=i/\(∀u∈us,Vh u)/\aj (hid acc (hid a H')) (us.map gm) ys/\ys.length=i/\H' acc=some (.lst ys)/\Tp H' a (n+5+12*i)/\SX a H1 H',?_,?_,?_⟩
  ·exact⟨[],rfl,fun u h=>by simp at h,aj.nil,rfl,aC,t1.dR ca,(SX.refl a H1).dR hacc ca⟩
  ·rintro i ys H2 hi ⟨us,l2,u2,a2,y2,c2,t2,s2⟩;show Vw _ [some _,some (.ref a)] H2 _;walk_at "rd";refine zY.of t2 (by omega) fun v1 H3 l3 u3 t3 s3=>?_
   refine zY.of t3 (by omega) fun v2 H4 l4 u4 t4 s4=>?_
   refine zY.of t4 (by omega) fun v3 H5 l5 u5 t5 s5=>?_
   refine⟨(by show 3<=sizeLine; decide),fun t ht=>?_⟩
   have s25:=s3.trans (s4.trans s5);have ta:t≠a:=t5.ne ht;have c5:=s25.get ca c2;have tc:t≠acc:=fun z=>by subst z; rw[ht] at c5; cases c5
   refine⟨by rw[aN (Ne.symm tc)]; exact c5,aY (by omega),us++[[v1,v2,v3]],by rw[cN,l2]; rfl,fun u hu=>?_,?_,by rw[cN,y2]; rfl,aC,?_,?_⟩
   ·rcases fZ.mp hu with z | z
    ·exact u2 u z
    ·rw[gJ.mp z]; exact⟨v1,v2,v3,rfl,⟨l3,u3⟩,⟨l4,u4⟩,⟨l5,u5⟩⟩
   ·rw[cR ca,rm,cR ta,cR tc,gY];have fr:(hid acc (hid a H5)) t=none:=by rw[cL tc,cL ta]; exact ht
    refine aj.append ((a2.mono (aP.hid s25)).mono (aQ fr _)) (aj.cons (At.tup aC ?_) aj.nil);exact aj.cons (At.int _) (aj.cons (At.int _) (aj.cons (At.int _) aj.nil))
   ·exact((t5.dR ta).dR ca).mono (by omega)
   ·exact(((s2.trans s25).trans (SX.of (aQ ht _))).dR hacc ca)
  ·rintro ys H2 ⟨us,l2,u2,a2,y2,c2,t2,s2⟩;refine⟨acc,ys,rfl,c2,fun l hl=>?_⟩;have la:l≠a:=t2.ne hl
   have A1:At (hid a (upd H2 l (.tup ys))) (.tuple (us.map gm)) (.ref l):=by
    rw[cR la];have fr:hid a H2 l=none:=by rw[cL la]; exact hl
    exact At.tup aC ((a2.mono oG).mono (aQ fr _))
   have p2:upd H2 l (.tup ys) p=some (.lst (cs.map V.int)):=by
    have:=s2.get pa h1;rw[aN (fun z=>by subst z; rw[hl] at this; cases this)]; exact this
   refine zY.of (t2.dR la) (by omega) fun v3 H3 l3 u3 t3 s3=>?_
   refine b_.of t3 (by omega) (by omega) (by omega) fun v4 H4 l4 u4 t4 s4=>?_
   refine⟨p,_,rfl,s4.get pa (s3.get pa p2),fun m hm=>?_⟩;have ma:m≠a:=t4.ne hm
   have A2:At (hid a (upd H4 m (.tup (cs.map V.int)))) (.tuple (cs.map .int)) (.ref m):=by
    rw[cR ma];exact At.tup aC (cY cs)
   have A1':At (hid a (upd H4 m (.tup (cs.map V.int)))) (.tuple (us.map gm)) (.ref l):=(A1.mono (s3.trans s4)).mono (SX.of (aQ hm _));refine b_.of (t4.dR ma) (by omega) (by decide) (by decide) fun v5 H5 l5 u5 t5 s5=>?_
   refine b_.of t5 (by omega) (by decide) (by decide) fun v6 H6 l6 u6 t6 s6=>?_
   refine⟨(by show 6<=sizeLine; decide),fun z hz=>?_⟩
   have za:z≠a:=t6.ne hz;have fr:hid a H6 z=none:=by rw[cL za]; exact hz
   have s56:=s5.trans s6;refine q z ⟨v3,v4,cs,v5,v6,us⟩ _ ⟨⟨l3,u3⟩,l4,h2,h3,by show v4+cs.sum<=12; omega,⟨l5,by show v5<=5; omega⟩,⟨l6,by show v6<=9; omega⟩,l2,u2⟩ ?_ ((t6.dR za).mono (by omega)) ?_
   ·rw[cR za];exact At.tup aC (aj.cons (At.int _) (aj.cons (At.int _) (aj.cons ((A2.mono s56).mono (aQ fr _)) (aj.cons (At.int _) (aj.cons (At.int _) (aj.cons ((A1'.mono s56).mono (aQ fr _)) aj.nil))))))
   ·refine SX.trans s1 (SX.trans s2 (SX.trans (SX.of (aQ hl _)) (SX.trans s3 (SX.trans s4 (SX.trans (SX.of (aQ hm _)) (SX.trans s5 (SX.trans s6 (SX.of (aQ hz _)))))))))
theorem Rc {x:gM} {st:jD} {ch:Int} (hx:QH x) (hs:Fj st):Fj (iM x st ch):=by
 have hc:=hs.c;have ha:=hx.a;unfold iM;split
 ·exact hs
 ·split
  ·refine⟨?_,hs.u,hs.l⟩;simp only[cN,mD,sY,gZ,vX];omega
  ·refine⟨?_,hs.u,hs.l⟩;simp only[qi];exact hc
def Jc:Sp:=fun vs H Q _=>∃(v:V) (x:gM),vs=[v]/\At H (dz x) v/\∀u H',aP H H'->At H' (qL ⟨0,x.lo,[0,0,0,0,0],0,0,[[0,0,0],[0,0,0],[0,0,0]]⟩) u->Q u H'
theorem GR {H:Hp} {x:gM} {v:V} (h:At H (dz x) v):∃a b c d,v=.ref a/\H a=some (.tup [.int x.p,.int x.m,.ref b,.int x.a,.int x.e,.ref c,.ref d])/\H b=some (.tup [.int x.lo,.int x.hi])/\H c=some (.tup [.int x.u,.int x.d])/\At H (vO x.jl) (.ref d):=by
 obtain⟨a,xs,rfl,h1,h2⟩:=bj h;obtain⟨x0,_,rfl,b0,h2⟩:=aj.aR h2;obtain⟨x1,_,rfl,b1,h2⟩:=aj.aR h2;obtain⟨x2,_,rfl,b2,h2⟩:=aj.aR h2;obtain⟨x3,_,rfl,b3,h2⟩:=aj.aR h2;obtain⟨x4,_,rfl,b4,h2⟩:=aj.aR h2;obtain⟨x5,_,rfl,b5,h2⟩:=aj.aR h2;obtain⟨x6,_,rfl,b6,h2⟩:=aj.aR h2;cases aj.gk h2;unfold At at b0 b1 b3 b4;subst b0 b1 b3 b4;obtain⟨b,ys,rfl,g3,g4⟩:=bj b2;obtain⟨c,zs,rfl,g1,g2⟩:=bj b5;obtain⟨d,ws,rfl,_,_⟩:=bj b6;cases cO (cs:=[x.u,x.d]) g2;cases cO (cs:=[x.lo,x.hi]) g4;exact⟨a,b,c,d,rfl,h1,g3,g1,b6⟩
theorem mW:aV ["post","least","nothing"] ["post"] (aF jU):=(by walk_at "c")
theorem wC (F:iK K "first_stand" "first_stand" jU f fd) (B:Bi mg):bJ P w K mg base gf (k+1) f fd ["post"] Jc:=by
 refine F.ok mW (by rintro vs H Q E ⟨v,x,rfl,_⟩; rfl) (fun cdv A outer s H vs Q E hr h=>?_)
 obtain⟨pA,x,rfl,a1,q⟩:=h;have ND:=mW.nd;refine⟨_,(aq (aX (i:=1) ND rfl (by walk_at "o") (bB bA (bB bA (pv 0) aA (fun _ _=>rfl)) aA (fun _ _=>rfl))) (aq (aX (i:=2) ND rfl (by walk_at "o") (bx (ao aA (ao aA (ao aA ak))))) (aH (a_ (bx (ao aA (ao (pv 1) (ao (bx (ao aA (ao aA (ao aA (ao aA (ao aA ak)))))) (ao aA (ao aA (ao (bx (ao (pv 2) (ao (pv 2) (ao (pv 2) ak)))) ak))))))))))),?_⟩
 obtain⟨pa,pb,pc,pd,rfl,p1,p2,p3,_⟩:=GR a1;walk_at "rd";refine Ix.tup p1 (v:=.ref pb) rfl (Ix.tup p2 (v:=.int x.lo) rfl ⟨(by decide),fun p4 H4 f4 s4 e4=>⟨(by decide),fun p5 H5 f5 s5 e5=>⟨(by decide),fun p6 H6 f6 s6 e6=>⟨(by decide),fun p7 H7 f7 s7 e7=>?_⟩⟩⟩⟩)
 have s47:=s5.trans (s6.trans s7);refine q _ _ (s4.trans s47) ?_;have tri:At H7 (gm [0,0,0]) (.ref p4):=At.tup (s47 _ _ e4) (cY [0,0,0]);exact At.tup e7 (aj.cons (At.int _) (aj.cons (At.int _) (aj.cons (At.tup ((s6.trans s7) _ _ e5) (cY [0,0,0,0,0])) (aj.cons (At.int _) (aj.cons (At.int _) (aj.cons (At.tup (s7 _ _ e6) (aj.cons tri (aj.cons tri (aj.cons tri aj.nil)))) aj.nil))))))
theorem gB:∀cs:List Int,bK (cs.map PyData.int)=true
 | []=>rfl
 | c::cs=>by show(tL (.int c)&&bK (cs.map .int))=true; rw[gB cs]; rfl
theorem kh:∀us:List (List Int),bK (us.map gm)=true
 | []=>rfl
 | u::us=>by
  show(bK (u.map PyData.int)&&bK (us.map gm))=true;rw[kh us,gB u]; rfl
theorem qK (n:jD):tL (qL n)=true:=by
 simp only[qL,tL,bK,gB,kh,Bool.and_self]
structure QG (r:jG):Prop where
 is:xu r
 g:r.g∈(["over","under","each"]:List Str)
 z:r.g = "each" -> r.t=0
 t:r.g ≠ "each" -> -12<=r.t/\r.t<=12/\r.t≠0
def NK:Sp:=fun vs H Q _=>∃(a:Addr) (n:Nat) (b:Bool),vs=[.ref a,.bl b]/\Tp H a n/\n<=800000000/\∀v r H',QG r->At (hid a H') (xG r) v->Tp H' a (n+12)->SX a H H'->Q v H'
theorem Row.of {a:Addr} {n:Nat} {b:Bool} {H:Hp} {Q:VK} {E:XK} (t:Tp H a n) (hn:n<=800000000) (q:∀v r H',QG r->At (hid a H') (xG r) v->Tp H' a (n+12)->SX a H H'->Q v H'):NK ([.ref a,.bl b]++[]) H Q E:=⟨a,n,b,rfl,t,hn,q⟩
theorem Dd:aV ["_law_tape_here","_law_small","_law_sign","_law_what","_law_span","_law_number","_law_step"] ["_law_tape_here","_law_small"] (aF Ae):=(by walk_at "c")
theorem O9 (F:iK K "_law_row" "_law_row" Ae f fd) (B:Bi mg) (aM:Ct P w K mg base k "_law_draw" ["_law_tape_here","_law_many"] fM) (eF:Ct P w K mg base k "_law_units" ["_law_tape_here"] n_):bJ P w K mg base gf (k+1) f fd ["_law_tape_here","_law_small"] NK:=by
 refine F.ok Dd (by rintro vs H Q E ⟨a,n,b,rfl,_⟩; rfl) (fun cdv A outer s H vs Q E hr h=>?_)
 obtain⟨a,n,b,rfl,tp,hn,q⟩:=h;have ND:=Dd.nd;refine⟨_,(aq (aX (i:=2) ND rfl (by walk_at "o") (bB bA (bG (ao iH (ao iH (ao iH ak)))) (pf aM hr (ao (pv 0) (ao aA ak))) (fun _ _=>rfl))) (aq (aX (i:=3) ND rfl (by walk_at "o") (bB bA (bG (ao iH (ao iH (ao iH (ao iH ak))))) (pf aM hr (ao (pv 0) (ao aA ak))) (fun _ _=>rfl))) (aq (aX (i:=4) ND rfl (by walk_at "o") (d_ (fQ (pv 1)) (bB bA (bG (ao aA (ao aA (ao aA (ao (aU bC aA (pf aM hr (ao (pv 0) (ao aA ak)))) ak))))) (pf aM hr (ao (pv 0) (ao aA ak))) (fun _ _=>rfl)) (aU bC aA (pf aM hr (ao (pv 0) (ao aA ak)))))) (aq (aX (i:=5) ND rfl (by walk_at "o") (d_ (fQ (pv 1)) (pf aM hr (ao (pv 0) (ao aA ak))) (pf eF hr (ao (pv 0) ak)))) (aq (cP (bz gR (pv 2) iH (bw _)) (aH (a_ (bx (ao (pv 3) (ao (pv 4) (ao (pv 2) (ao (pb (k_ rfl) B.max tX (ao aA (ao (pv 5) ak))) (ao aA ak)))))))) bM) (aq (aX (i:=6) ND rfl (by walk_at "o") (aU bC aA (pf aM hr (ao (pv 0) (ao (d_ (fQ (pv 1)) aA aA) ak))))) (aH (a_ (bx (ao (pv 3) (ao (pv 4) (ao (pv 2) (ao (pv 5) (ao (d_ (bz wA (aU bC (pf aM hr (ao (pv 0) (ao aA ak))) (aU j5 (pt (zR) B.int Ia (ao (eQ gR (pv 2) iH (bw _)) ak)) aA)) aA (bw _)) (pv 6) (aU jt aA (pv 6))) ak)))))))))))))),?_⟩
 walk_at "rd";refine⟨(by decide),fun p1 H1 f1 s1 e1=>?_⟩
 refine b_.of (tp.same s1) (by omega) (by decide) (by decide) fun y1 H2 l2 u2 t2 s2=>?_
 have n1:p1≠a:=tp.ne f1;obtain⟨g,hg,eg⟩:=yV (ts:=["over","under","each"]) l2 u2;refine Ix.lst (s2.get n1 e1) eg ?_;refine⟨(by decide),fun p3 H3 f3 s3 e3=>?_⟩
 refine b_.of (t2.same s3) (by omega) (by decide) (by decide) fun y4 H4 l4 u4 t4 s4=>?_
 have n3:p3≠a:=t2.ne f3;obtain⟨w,hw,ew⟩:=yV (ts:=["come","done","wait","wait"]) l4 u4
 have hw':w∈(["come","done","wait"]:List Str):=by
  simp only[bI,dD,or_false] at hw ⊢;rcases hw with z | z | z | z
  ·exact .inl z
  ·exact .inr (.inl z)
  ·exact .inr (.inr z)
  ·exact .inr (.inr z)
 refine Ix.lst (s4.get n3 e3) ew ?_;have sx4:SX a H H4:=(SX.of s1).trans (s2.trans ((SX.of s3).trans s4))
 have fin:∀(sp:Nat) (nn tt:Int) (H8:Hp) (m:Nat),(1<=sp/\sp<=4)->Tp H8 a m->m<=n+12->SX a H H8->(0<=nn/\nn<=1000000000000)->(g = "each" -> 1<=nn)->(g = "each" -> tt=0)->(g ≠ "each" -> -12<=tt/\tt<=12/\tt≠0)->∀p H',H8 p=none->aP H8 H'->H' p=some (.tup [.str w,.int sp,.str g,.int nn,.int tt])->Q (.ref p) H':=fun sp nn tt H8 m hsp t8 hm s8 hnn hge hz ht p H' fp sp' ep=>by
  have pa:p≠a:=t8.ne fp;refine q _ ⟨w,sp,g,nn,tt⟩ H' ⟨⟨hw',hsp,hnn,hge⟩,hg,hz,ht⟩ (At.tup (by rw[cL pa]; exact ep) ?_) ((t8.same sp').mono hm) (s8.trans (SX.of sp'))
  exact aj.cons (At.str _) (aj.cons (At.int _) (aj.cons (At.str _) (aj.cons (At.int _) (aj.cons (At.int _) aj.nil))))
 cases b with
 | false=>
  walk_at "rd";refine b_.of t4 (by omega) (by decide) (by decide) fun y5 H5 l5 u5 t5 s5=>?_
  walk_at "rd";refine zY.of t5 (by omega) fun num H6 l6 u6 t6 s6=>?_
  walk_at "rd";obtain⟨sp,hsp⟩:∃sp:Nat,1+y5=(sp:Int):=⟨(1+y5).toNat,by omega⟩
  rw[hsp];have sx:SX a H H6:=sx4.trans (s5.trans s6);refine cT (fun c1=>?_) (fun c1=>?_)
  ·exact⟨(by decide),fin _ _ _ H6 _ (by omega) t6 (by omega) sx (by split <;> omega) (fun _=>by split <;> omega) (fun _=>rfl) (fun z=>absurd (tG c1) z)⟩
  ·have c1':=Dp c1;refine b_.of t6 (by omega) (by decide) (by decide) fun y8 H8 l8 u8 t8 s8=>?_
   walk_at "rd";refine b_.of t8 (by omega) (by decide) (by decide) fun y9 H9 l9 u9 t9 s9=>?_
   walk_at "rd";refine⟨.inr (by decide),?_⟩
   refine cT (fun c2=>?_) (fun c2=>?_)
   ·exact⟨(by decide),fin _ _ _ H9 _ (by omega) t9 (by omega) (sx.trans (s8.trans s9)) ⟨l6,u6⟩ (fun z=>absurd z c1') (fun z=>absurd z c1') (fun _=>by omega)⟩
   ·exact⟨(by decide),fin _ _ _ H9 _ (by omega) t9 (by omega) (sx.trans (s8.trans s9)) ⟨l6,u6⟩ (fun z=>absurd z c1') (fun z=>absurd z c1') (fun _=>by omega)⟩
 | true=>
  walk_at "rd";refine b_.of t4 (by omega) (by decide) (by decide) fun y5 H5 l5 u5 t5 s5=>?_
  walk_at "rd";refine⟨(by decide),fun p6 H6 f6 s6 e6=>?_⟩
  refine b_.of (t5.same s6) (by omega) (by decide) (by decide) fun y7 H7 l7 u7 t7 s7=>?_
  have n6:p6≠a:=t5.ne f6;obtain⟨x,hx,ex⟩:=oA (ts:=[1,1,1,1+y5]) l7 u7;refine Ix.lst (s7.get n6 e6) ex ?_
  have hx':1<=x/\x<=4:=by
   simp only[bI,dD,or_false] at hx;rcases hx with rfl | rfl | rfl | rfl <;> omega
  refine b_.of t7 (by omega) (by decide) (by decide) fun num H8 l8 u8 t8 s8=>?_
  walk_at "rd";obtain⟨sp,rfl⟩:∃sp:Nat,x=(sp:Int):=⟨x.toNat,by omega⟩
  have sx:SX a H H8:=sx4.trans (s5.trans ((SX.of s6).trans (s7.trans s8)));refine cT (fun c1=>?_) (fun c1=>?_)
  ·exact⟨(by decide),fin _ _ _ H8 _ (by omega) t8 (by omega) sx (by split <;> omega) (fun _=>by split <;> omega) (fun _=>rfl) (fun z=>absurd (tG c1) z)⟩
  ·have c1':=Dp c1;refine b_.of t8 (by omega) (by decide) (by decide) fun y8 H9 l9 u9 t9 s9=>?_
   walk_at "rd";refine b_.of t9 (by omega) (by decide) (by decide) fun y9 J_ l10 u10 t10 Ag=>?_
   walk_at "rd";refine⟨.inr (by decide),?_⟩
   refine cT (fun c2=>?_) (fun c2=>?_)
   ·exact⟨(by decide),fin _ _ _ J_ _ (by omega) t10 (by omega) (sx.trans (s9.trans Ag)) (by omega) (fun z=>absurd z c1') (fun z=>absurd z c1') (fun _=>by omega)⟩
   ·exact⟨(by decide),fin _ _ _ J_ _ (by omega) t10 (by omega) (sx.trans (s9.trans Ag)) (by omega) (fun z=>absurd z c1') (fun z=>absurd z c1') (fun _=>by omega)⟩
theorem Ru (r:jG):tL (xG r)=true:=rfl
theorem vP (rs:List jG):tL (vQ rs)=true:=by
 show bK (rs.map xG)=true;exact bf.mpr fun d hd=>by obtain⟨r,_,rfl⟩:=du.mp hd; rfl
structure XD (rs:List jG):Prop where
 lo:1<=rs.length
 hi:rs.length<=4
 g:∀r∈rs,QG r
def z_:Sp:=fun vs H Q _=>∃(a:Addr) (n:Nat) (bs:Bool),vs=[.ref a,.bl bs]/\Tp H a n/\n<=700000000/\∀p jl H',jl.length<=3->(∀rs∈jl,XD rs)->At (hid a H') (vO jl) (.ref p)->Tp H' a (n+300)->SX a H H'->Q (.ref p) H'
theorem vB:aV ["_law_tape_here","_law_small","_law_rules_here","_law_k"] ["_law_tape_here","_law_small"] (aF sO):=(by walk_at "c")
theorem Hb (F:iK K "_law_rules" "_law_rules" sO f fd) (B:Bi mg) (aM:Ct P w K mg base k "_law_draw" ["_law_tape_here","_law_many"] fM) (TF:Ct P w K mg base k "_law_row" ["_law_tape_here","_law_small"] NK):bJ P w K mg base gf (k+1) f fd ["_law_tape_here","_law_small"] z_:=by
 refine F.ok vB (by rintro vs H Q E ⟨a,n,bs,rfl,_⟩; rfl) (fun cdv A outer s H vs Q E hr h=>?_)
 obtain⟨a,n,bs,rfl,tp,hn,q⟩:=h;have ND:=vB.nd;refine⟨_,(aq (aX (i:=2) ND rfl (by walk_at "o") (bG ak)) (aq (gA PassesOwn.never rfl (dF (by rfl) B.range (ao (pf aM hr (ao (pv 0) (ao (d_ (fQ (pv 1)) aA aA) ak))) ak)) (aJ (i:=3) ND rfl (by walk_at "o")) (aH (bO (g_ (K:=K) rfl PySem.F.plainAttrs_list PySem.F.slot_list_append PySem.F.type_list_append fC (pv 2) (ao (pt (i_) B.tuple gH (ao (cV (N':=["_law_j","_law_tape_here","_law_small"]) (js:=[0,1]) rfl (dF (by rfl) B.range (ao (aU bC aA (pf aM hr (ao (pv 0) (ao (d_ (fQ (pv 1)) aA aA) ak)))) ak)) qC.mk2 rfl (by decide) rfl (fun fp s' H'=>(pf TF hr (ao (pv 1) (ao (pv 2) ak))))) ak)) ak))))) (aH (a_ (pt (i_) B.tuple gH (ao (pv 2) ak)))))),?_⟩
 walk_at "rd";refine⟨gw _,fun p H1 f1 s1 e1=>?_⟩;have pa:p≠a:=tp.ne f1;rw[mL];walk_at "rd";refine(fun(hT:∀(m:Int) (H2:Hp),0<=m->m<4->Tp H2 a (n+1)->SX a H1 H2->FK _ _ _ _ [.int m] H2)=>cT (fun _=>b_.of (tp.same s1) (by omega) (by decide) (by decide) fun m H2 l2 u2 t2 s2=>hT m H2 l2 (by omega) t2 s2) (fun _=>b_.of (tp.same s1) (by omega) (by decide) (by decide) fun m H2 l2 u2 t2 s2=>hT m H2 l2 (by omega) t2 s2)) ?_
 intro m H2 l2 u2 t2 s2;refine FK.of (n:=m.toNat) (by omega) (by omega) (fun i σ H'=>∃(jl:List (List jG)) (ys:List V) (o3:Option V),σ=[some (.ref a),some (.bl bs),some (.ref p),o3]/\jl.length=i/\ys.length=i/\(∀rs∈jl,XD rs)/\H' p=some (.lst ys)/\aj (hid p (hid a H')) (jl.map vQ) ys/\Tp H' a (n+1+60*i)/\SX a H H')
  ⟨[],[],_,rfl,rfl,rfl,fun d h=>by simp at h,s2.get pa e1,aj.nil,t2,(SX.of s1).trans s2⟩ ?_ ?_
 ·rintro i σ H3 hi ⟨jl,ys,o3,rfl,ld,ly,od,h3,a3,t3,s3⟩;walk_at "rd";refine⟨.inl ⟨rfl,_,cg.of h3⟩,?_⟩;rw[rY];walk_at "rd";refine(fun(hT:∀(r:Int) (H4:Hp),0<=r->r<4->Tp H4 a (n+1+60*i+1)->SX a H3 H4->∃i_1 j_1,V.int 1=V.int i_1/\V.int r=V.int j_1/\CK _ _ _ _ [.int (i_1+j_1)] H4)=>cT (fun _=>b_.of t3 (by omega) (by decide) (by decide) fun r H4 l4 u4 t4 s4=>hT r H4 l4 (by omega) t4 s4) (fun _=>b_.of t3 (by omega) (by decide) (by decide) fun r H4 l4 u4 t4 s4=>hT r H4 l4 (by omega) t4 s4)) ?_
  intro r H4 l4 u4 t4 s4;have h4:=s4.get pa h3;walk_at "rd";refine CK.of (n:=(1+r).toNat) (by omega) (by omega) fun acc hacc=>?_
  have ca:acc≠a:=t4.ne hacc;have cp:acc≠p:=fun z=>by subst z; rw[hacc] at h4; cases h4
  refine⟨fun j zs H'=>∃es:List jG,es.length=j/\zs.length=j/\(∀d∈es,QG d)/\aj (hid acc (hid a H')) (es.map xG) zs/\H' acc=some (.lst zs)/\Tp H' a (n+1+60*i+1+12*j)/\SX a H4 H',?_,?_,?_⟩
  ·exact⟨[],rfl,rfl,fun d h=>by simp at h,aj.nil,aC,t4.dR ca,(SX.refl a H4).dR hacc ca⟩
  ·rintro j zs H5 hj ⟨es,le,lz,oe,a5,c5,t5,s5⟩;show mQ _ _ _ _ [some _,some (.ref a),some (.bl bs)] H5 _;walk_at "rd";refine Row.of t5 (by omega) fun v d H6 rk a6 t6 s6=>?_
   have c6:=s6.get ca c5;have c6':hid a H6 acc=some (.lst zs):=by rw[cL ca]; exact c6
   refine⟨c6,(by rw[lz]; exact aY (by omega)),es++[d],by rw[cN,le]; rfl,by rw[cN,lz]; rfl,fun x hx=>?_,?_,aC,?_,?_⟩
   ·rcases fZ.mp hx with z | z
    ·exact oe x z
    ·rw[gJ.mp z]; exact rk
   ·rw[cR ca,rm,gY];exact(a5.mono (aP.hid s6)).append (aj.cons (At.Hu c6' _ v (Ru d) a6) aj.nil)
   ·exact(t6.dR ca).mono (by omega)
   ·exact(s5.trans s6).dR hacc ca
  ·rintro zs H6 ⟨es,le,lz,oe,a6,c6,t6,s6⟩;have h6:=s6.get pa h4;refine⟨acc,zs,rfl,c6,fun l hl=>?_⟩;have la:l≠a:=t6.ne hl;have lp:l≠p:=fun z=>by subst z; rw[hl] at h6; cases h6
   refine⟨p,ys,_,rfl,rfl,by rw[aN (Ne.symm lp)]; exact h6,by rw[ly]; exact aY (by omega),?_⟩
   have A1:At (hid a (upd H6 l (.tup zs))) (vQ es) (.ref l):=by
    rw[cR la];have fr:hid a H6 l=none:=by rw[cL la]; exact hl
    exact At.tup aC ((a6.mono oG).mono (aQ fr _))
   have h7:hid a (upd H6 l (.tup zs)) p=some (.lst ys):=by rw[cL pa,aN (Ne.symm lp)]; exact h6
   have s67:SX a H3 (upd H6 l (.tup zs)):=(s4.trans s6).trans (SX.of (aQ hl _));refine⟨jl++[es],ys++[.ref l],_,rfl,by rw[cN,ld]; rfl,by rw[cN,ly]; rfl,fun x hx=>?_,aC,?_,?_,?_⟩
   ·rcases fZ.mp hx with z | z
    ·exact od x z
    ·rw[gJ.mp z]; exact⟨by omega,by omega,oe⟩
   ·rw[cR pa,rm,gY];exact(a3.mono (aP.hid s67)).append (aj.cons (At.Hu h7 _ _ (vP es) A1) aj.nil)
   ·exact((t6.dR la).dR pa).mono (by omega)
   ·exact(s3.trans s67).dR f1 pa
 ·rintro σ H3 ⟨jl,ys,o3,rfl,ld,ly,od,h3,a3,t3,s3⟩;walk_at "rd";refine⟨p,ys,rfl,h3,fun l hl=>?_⟩;have la:l≠a:=t3.ne hl;refine q l jl _ (by omega) od ?_ ((t3.dR la).mono (by omega)) (s3.trans (SX.of (aQ hl _)))
  rw[cR la];have fr:hid a H3 l=none:=by rw[cL la]; exact hl
  exact At.tup aC ((a3.mono oG).mono (aQ fr _))
structure Cq (x:gM):Prop where
 p:1<=x.p/\x.p<=1000000
 m:U12 x.m
 lo:0<=x.lo/\x.lo<=x.hi
 hi:x.hi<=12
 a:x.a<=4
 e:1<=x.e/\x.e<=6
 u:0<=x.u/\x.u<=9
 d:0<=x.d/\x.d<=9
 n:x.jl.length<=3
 r:∀rs∈x.jl,XD rs
theorem Cq.is {x:gM} (h:Cq x):QH x:=⟨h.a,by have:=h.p; omega,by have:=h.n; omega,fun rs hrs r hr=>((h.r rs hrs).g r hr).is⟩
def sr:Sp:=fun vs H Q _=>∃(a:Addr) (n:Nat),vs=[.ref a]/\Tp H a n/\n<=100000000/\∀p x H',Cq x->At (hid a H') (dz x) (.ref p)->Tp H' a (n+400)->SX a H H'->Q (.ref p) H'
theorem ju:aV ["_law_tape_here","_law_least","_law_hands","_law_rests","_law_late","_law_every"] ["_law_tape_here"] (aF jf):=(by walk_at "c")
theorem uz (F:iK K "_law_small_post" "_law_small_post" jf f fd) (B:Bi mg) (aM:Ct P w K mg base k "_law_draw" ["_law_tape_here","_law_many"] fM) (tU:Ct P w K mg base k "_law_rules" ["_law_tape_here","_law_small"] z_):bJ P w K mg base gf (k+1) f fd ["_law_tape_here"] sr:=by
 refine F.ok ju (by rintro vs H Q E ⟨a,n,rfl,_⟩; rfl) (fun cdv A outer s H vs Q E hr h=>?_)
 obtain⟨a,n,rfl,tp,hn,q⟩:=h;have ND:=ju.nd;refine⟨_,(aq (aX (i:=1) ND rfl (by walk_at "o") (pf aM hr (ao (pv 0) (ao aA ak)))) (aq (aX (i:=2) ND rfl (by walk_at "o") (bx (ao (pv 1) (ao (aU bC (aU bC (pv 1) aA) (pf aM hr (ao (pv 0) (ao aA ak)))) ak)))) (aq (aX (i:=3) ND rfl (by walk_at "o") (bB bA (bG (ao (bx (ao aA (ao aA ak))) (ao (bx (ao aA (ao aA ak))) (ao (bx (ao aA (ao aA ak))) (ao (bx (ao aA (ao aA ak))) ak))))) (pf aM hr (ao (pv 0) (ao aA ak))) (fun _ _=>rfl))) (aq (nD (i:=4) (j:=5) rfl ND rfl rfl (by decide) rfl rfl (ao (bB bA (bG (ao aA (ao aA (ao aA (ao aA ak))))) (pf aM hr (ao (pv 0) (ao aA ak))) (fun _ _=>rfl)) (ao (bB bA (bG (ao aA (ao aA (ao aA (ao aA ak))))) (pf aM hr (ao (pv 0) (ao aA ak))) (fun _ _=>rfl)) ak)) (by rfl)) (aH (a_ (bx (ao (aU bC aA (pf aM hr (ao (pv 0) (ao aA ak)))) (ao (aU bC aA (pf aM hr (ao (pv 0) (ao aA ak)))) (ao (pv 2) (ao (pv 4) (ao (pv 5) (ao (pv 3) (ao (pf tU hr (ao (pv 0) (ao uh ak))) ak)))))))))))))),?_⟩
 walk_at "rd";refine b_.of tp (by omega) (by decide) (by decide) fun y1 H1 l1 u1 t1 s1=>?_
 walk_at "rd";refine b_.of t1 (by omega) (by decide) (by decide) fun y2 H2 l2 u2 t2 s2=>⟨_,_,rfl,rfl,(by decide),fun p3 H3 f3 s3 e3=>?_⟩
 have n3:=t2.ne f3;refine⟨(by decide),fun q1 G1 g1 r1 d1=>⟨(by decide),fun q2 G2 g2 r2 d2=>⟨(by decide),fun q3 G3 g3 r3 d3=>⟨(by decide),fun q4 G4 g4 r4 d4=>⟨(by decide),fun p4 H4 f4 s4 e4=>?_⟩⟩⟩⟩⟩
 have x34:aP H3 H4:=r1.trans (r2.trans (r3.trans (r4.trans s4)));have t4:=(t2.same s3).same x34;have m1:=((t2.same s3)).ne g1;have m2:=((t2.same s3).same r1).ne g2;have m3:=(((t2.same s3).same r1).same r2).ne g3;have m4:=((((t2.same s3).same r1).same r2).same r3).ne g4;have n4:=(((((t2.same s3).same r1).same r2).same r3).same r4).ne f4;refine b_.of t4 (by omega) (by decide) (by decide) fun y5 H5 l5 u5 t5 s5=>?_
 have pick:∃(pr:Addr) (uu dd:Int),Cm [V.ref q1,V.ref q2,V.ref q3,V.ref q4] y5=some (.ref pr)/\pr≠a/\H5 pr=some (.tup [.int uu,.int dd])/\(0<=uu/\uu<=9)/\(0<=dd/\dd<=9):=by
  have:y5=0\/y5=1\/y5=2\/y5=3:=by omega
  rcases this with rfl | rfl | rfl | rfl
  ·exact⟨q1,0,0,bh (j:=0) rfl,m1,s5.get m1 (s4 _ _ (r4 _ _ (r3 _ _ (r2 _ _ d1)))),by decide,by decide⟩
  ·exact⟨q2,1,0,bh (j:=1) rfl,m2,s5.get m2 (s4 _ _ (r4 _ _ (r3 _ _ d2))),by decide,by decide⟩
  ·exact⟨q3,0,1,bh (j:=2) rfl,m3,s5.get m3 (s4 _ _ (r4 _ _ d3)),by decide,by decide⟩
  ·exact⟨q4,2,1,bh (j:=3) rfl,m4,s5.get m4 (s4 _ _ d4),by decide,by decide⟩
 obtain⟨pr,uu,dd,ep,npr,epr,hu,hd⟩:=pick;refine Ix.lst (s5.get n4 e4) ep ?_;refine⟨(by decide),fun p6 H6 f6 s6 e6=>?_⟩
 have t6:=t5.same s6;have n6:=t5.ne f6;refine b_.of t6 (by omega) (by decide) (by decide) fun y7 H7 l7 u7 t7 s7=>?_
 obtain⟨lt,hlt,elt⟩:=oA (ts:=[0,1,0,2]) l7 u7
 have hlt':0<=lt/\lt<=2:=by
  simp only[bI,dD,or_false] at hlt;rcases hlt with rfl | rfl | rfl | rfl <;> omega
 refine Ix.lst (s7.get n6 e6) elt ?_;clear elt hlt l7 u7;refine⟨(by decide),fun p8 H8 f8 s8 e8=>?_⟩
 have t8:=t7.same s8;have n8:=t7.ne f8;refine b_.of t8 (by omega) (by decide) (by decide) fun y9 H9 l9 u9 t9 s9=>?_
 obtain⟨ev,hev,eev⟩:=oA (ts:=[1,2,1,3]) l9 u9
 have ahn:1<=ev/\ev<=3:=by
  simp only[bI,dD,or_false] at hev;rcases hev with rfl | rfl | rfl | rfl <;> omega
 refine Ix.lst (s9.get n8 e8) eev ⟨_,_,rfl,?_⟩;clear eev hev l9 u9;refine b_.of t9 (by omega) (by decide) (by decide) fun y10 J_ l10 u10 t10 Ag=>⟨_,_,rfl,rfl,?_⟩
 refine b_.of t10 (by omega) (by decide) (by decide) fun y11 Vk l11 u11 t11 QQ=>⟨_,_,rfl,rfl,?_⟩
 refine⟨a,_,true,rfl,t11,by omega,fun p14 jl H14 Xa W_ a14 Ze Rt=>⟨(by decide),fun p15 XR f15 QM Tr=>?_⟩⟩
 have n15:=Ze.ne f15;obtain⟨la,hla⟩:∃la:Nat,lt=(la:Int):=⟨lt.toNat,by omega⟩
 rw[hla] at Tr;have x5:SX a H5 XR:=(SX.of s6).trans (s7.trans ((SX.of s8).trans (s9.trans (Ag.trans (QQ.trans (Rt.trans (SX.of QM)))))));have x3:SX a H3 XR:=(SX.of x34).trans (s5.trans x5);refine q p15 ⟨1+y10,3+y11,y1,y1+1+y2,la,ev,uu,dd,jl⟩ XR ⟨by show 1<=1+y10/\1+y10<=1000000; omega,by show 0<=3+y11/\3+y11<=1000000000000; omega,by show 0<=y1/\y1<=y1+1+y2; omega,by show y1+1+y2<=12; omega,by show la<=4; omega,by show 1<=ev/\ev<=6; omega,hu,hd,Xa,W_⟩ ?_ ((Ze.same QM).mono (by omega)) ?_
 ·exact At.tup (by rw[cL n15]; exact Tr) (aj.cons (At.int _) (aj.cons (At.int _) (aj.cons (At.tup (by rw[cL n3]; exact x3.get n3 e3) (cY [y1,y1+1+y2])) (aj.cons (At.int _) (aj.cons (At.int _) (aj.cons (At.tup (by rw[cL npr]; exact x5.get npr epr) (cY [uu,dd])) (aj.cons (a14.mono (SX.of QM)) aj.nil)))))))
 ·exact s1.trans (s2.trans ((SX.of s3).trans x3))
theorem yP:aV ["_law_tape_here","_law_pace","_law_most","_law_hands","_law_rests","_law_late","_law_every"] ["_law_tape_here"] (aF vK):=(by walk_at "c")
theorem Le (F:iK K "_law_post" "_law_post" vK f fd) (B:Bi mg) (aM:Ct P w K mg base k "_law_draw" ["_law_tape_here","_law_many"] fM) (eF:Ct P w K mg base k "_law_units" ["_law_tape_here"] n_) (tU:Ct P w K mg base k "_law_rules" ["_law_tape_here","_law_small"] z_):bJ P w K mg base gf (k+1) f fd ["_law_tape_here"] sr:=by
 refine F.ok yP (by rintro vs H Q E ⟨a,n,rfl,_⟩; rfl) (fun cdv A outer s H vs Q E hr h=>?_)
 obtain⟨a,n,rfl,tp,hn,q⟩:=h;have ND:=yP.nd;refine⟨_,(aq (aX (i:=1) ND rfl (by walk_at "o") (bB bA (bG (ao aA (ao (aU bC aA (pf aM hr (ao (pv 0) (ao aA ak)))) (ao (aU bC aA (pf aM hr (ao (pv 0) (ao (aU qb aA aA) ak)))) ak)))) (pf aM hr (ao (pv 0) (ao aA ak))) (fun _ _=>rfl))) (aq (aX (i:=2) ND rfl (by walk_at "o") (pf aM hr (ao (pv 0) (ao aA ak)))) (aq (aX (i:=3) ND rfl (by walk_at "o") (bx (ao (pf aM hr (ao (pv 0) (ao (aU bC (pv 2) aA) ak))) (ao (pv 2) ak)))) (aq (aX (i:=4) ND rfl (by walk_at "o") (bx (ao (pf aM hr (ao (pv 0) (ao aA ak))) (ao (pf aM hr (ao (pv 0) (ao aA ak))) ak)))) (aq (nD (i:=5) (j:=6) rfl ND rfl rfl (by decide) rfl rfl (ao (pf aM hr (ao (pv 0) (ao aA ak))) (ao (aU bC aA (pf aM hr (ao (pv 0) (ao aA ak)))) ak)) (by rfl)) (aH (a_ (bx (ao (pv 1) (ao (pf eF hr (ao (pv 0) ak)) (ao (pv 3) (ao (pv 5) (ao (pv 6) (ao (pv 4) (ao (pf tU hr (ao (pv 0) (ao uh ak))) ak))))))))))))))),?_⟩
 have e6:(10:Int) ^ Int.toNat 6=1000000:=by decide
 walk_at "rd";refine b_.of tp (by omega) (by decide) (by decide) fun y1 H1 l1 u1 t1 s1=>?_
 walk_at "rd";refine⟨⟨by decide,by decide,by decide⟩,b_.of t1 (by omega) (by decide) (by decide) fun y2 H2 l2 u2 t2 s2=>⟨_,_,rfl,rfl,(by decide),fun p3 H3 f3 s3 e3=>?_⟩⟩
 rw[e6] at u2;have n3:=t2.ne f3;refine b_.of (t2.same s3) (by omega) (by decide) (by decide) fun y4 H4 l4 u4 t4 s4=>?_
 obtain⟨pc,hpc,epc⟩:=oA (ts:=[1,1+y1,1+y2]) l4 u4
 have ac4:1<=pc/\pc<=1000000:=by
  simp only[bI,dD,or_false] at hpc;rcases hpc with rfl | rfl | rfl <;> omega
 refine Ix.lst (s4.get n3 e3) epc ?_;clear hpc epc l4 u4;refine b_.of t4 (by omega) (by decide) (by decide) fun y5 H5 l5 u5 t5 s5=>⟨_,_,rfl,rfl,?_⟩
 refine b_.of t5 (by omega) (by omega) (by omega) fun y6 H6 l6 u6 t6 s6=>⟨(by decide),fun p7 H7 f7 s7 e7=>?_⟩
 have n7:=t6.ne f7;refine b_.of (t6.same s7) (by omega) (by decide) (by decide) fun y8 H8 l8 u8 t8 s8=>?_
 refine b_.of t8 (by omega) (by decide) (by decide) fun y9 H9 l9 u9 t9 s9=>⟨(by decide),fun p10 J_ f10 Ag e10=>?_⟩
 have n10:=t9.ne f10;refine b_.of (t9.same Ag) (by omega) (by decide) (by decide) fun y11 Vk l11 u11 t11 QQ=>?_
 refine b_.of t11 (by omega) (by decide) (by decide) fun y12 H12 l12 u12 t12 s12=>⟨_,_,rfl,rfl,_,_,rfl,?_⟩
 refine zY.of t12 (by omega) fun y13 H13 l13 u13 t13 vN=>?_
 refine⟨a,_,false,rfl,t13,by omega,fun p14 jl H14 Xa W_ a14 Ze Rt=>⟨(by decide),fun p15 XR f15 QM Tr=>?_⟩⟩
 have n15:=Ze.ne f15;obtain⟨la,hla⟩:∃la:Nat,y11=(la:Int):=⟨y11.toNat,by omega⟩
 rw[hla] at Tr;have x10:SX a J_ XR:=QQ.trans (s12.trans (vN.trans (Rt.trans (SX.of QM))));have x7:SX a H7 XR:=s8.trans (s9.trans ((SX.of Ag).trans x10));refine q p15 ⟨pc,y13,y6,y5,la,1+y12,y8,y9,jl⟩ XR ⟨ac4,⟨l13,u13⟩,by show 0<=y6/\y6<=y5; omega,by show y5<=12; omega,by show la<=4; omega,by show 1<=1+y12/\1+y12<=6; omega,by show 0<=y8/\y8<=9; omega,by show 0<=y9/\y9<=9; omega,Xa,W_⟩ ?_ ((Ze.same QM).mono (by omega)) ?_
 ·exact At.tup (by rw[cL n15]; exact Tr) (aj.cons (At.int _) (aj.cons (At.int _) (aj.cons (At.tup (by rw[cL n7]; exact x7.get n7 e7) (cY [y6,y5])) (aj.cons (At.int _) (aj.cons (At.int _) (aj.cons (At.tup (by rw[cL n10]; exact x10.get n10 e10) (cY [y8,y9])) (aj.cons (a14.mono (SX.of QM)) aj.nil)))))))
 ·exact s1.trans (s2.trans ((SX.of s3).trans (s4.trans (s5.trans (s6.trans ((SX.of s7).trans x7))))))
def ltr (c:Nat):Bool:=!(Builtin.Str.occurrences (Str.ofString "abcdefghijklmnopqrstuvwxyz") (tx [c]) 0 (Str.ofString "abcdefghijklmnopqrstuvwxyz").length 1).isEmpty
def nameB (cs:List Nat):Bool:=decide (1<=cs.length)&&decide (cs.length<=8)&&cs.all ltr
def XH (c:Nat):Prop:=97<=c/\c<=122
structure Q4 (cs:List Nat):Prop where
 n:1<=cs.length/\cs.length<=8
 g:∀c∈cs,XH c
theorem Wv {c:Nat} (h:XH c):ltr c=true:=by
 have:∀d:Fin 26,ltr (97+d.val)=true:=by decide +kernel
 have h2:=this ⟨c-97,by have:=h.1; have:=h.2; omega⟩
 have e:97+(c-97)=c:=by have:=h.1; omega
 simpa[e] using h2
theorem Q4.is {cs:List Nat} (h:Q4 cs):nameB cs=true:=by
 unfold nameB;rw[oW h.n.1,oW h.n.2,oX.mpr fun c hc=>Wv (h.g c hc)];rfl
def Gj:Sp:=fun vs H Q _=>∃(cs:List Nat),vs=[.str (tx cs)]/\(∀c∈cs,c<128)/\cs.length<=1000/\∀H',aP H H'->Q (.bl (nameB cs)) H'
theorem vG:aV ["thing"] ["thing"] (aF sV):=(by walk_at "c")
theorem Hf (F:iK K "is_name" "is_name" sV f fd) (B:Bi mg) (O:Co K mg):bJ P w K mg base gf (k+1) f fd ["thing"] Gj:=by
 refine F.ok vG (by rintro vs H Q E ⟨cs,rfl,_⟩; rfl) (fun cdv A outer s H vs Q E hr h=>?_)
 obtain⟨cs,rfl,ha,hz,q⟩:=h;have ND:=vG.nd;refine⟨_,(aq (cP (PW.pt (ug (nC (fQ (pb uR B.isinstance bW (ao (pv 0) (ao (pty (by rfl) B.str Ci) ak))))) (nA (nC (DX Ea Ea aA (pb (rK) B.len d9 (ao (pv 0) ak)) (Ar O.Cu)))))) (aH (a_ uh)) bM) (aH (a_ (pb (lq rfl) B.all xr (ao (cV (N':=["sign"]) (js:=[]) rfl (Wb (pv 0)) qC.U3 rfl (by decide) rfl (fun fp s' H'=>(eQ K_ (pv 0) (Aq O.LETTERS) (by with_unfolding_all rfl)))) ak))))),?_⟩
 walk_at "rd";refine⟨.str (tx cs),_,rfl,At.str _,?_⟩;walk_at "rd";refine⟨tx cs,rfl,by rw[fL,sizeLine_eq]; omega,?_⟩
 rw[fL];refine aag (fun h=>?_) (fun h=>?_)
 ·refine aag (fun h2=>?_) (fun h2=>?_)
  ·have:nameB cs=false:=by
    have h3:¬cs.length<=8:=by simp at h2; omega
    unfold nameB; rw[mC h3]; simp
   rw[<- this]; exact q H (aP.refl H)
  ·refine Xp (l:=cs) (f:=ltr) (fun R hR=>by walk_at "rd"; exact hR) ha (by rw[sizeLine_eq]; omega) (fun c H1 s1 R hR=>?_) fun acc H1 s1 e1=>?_
   ·walk_at "rd";exact⟨_,_,rfl,rfl,hR H1 (aP.refl H1)⟩
   ·refine⟨acc,_,rfl,e1,?_⟩;have h1:1<=cs.length:=by simp at h; omega
    have h3:cs.length<=8:=by simp at h2; omega
    have:nameB cs=(cs.map ltr).all id:=by unfold nameB; rw[oW h1,oW h3,List.all_map]; rfl
    rw[<- this]; exact q H1 s1
 ·have:nameB cs=false:=by
   have h3:¬1<=cs.length:=fun z=>h (by simp; omega)
   unfold nameB; rw[mC h3]; simp
  rw[<- this]; exact q H (aP.refl H)
theorem Name.of {cs:List Nat} {H:Hp} {Q:VK} {E:XK} (h:Q4 cs) (q:∀H',aP H H'->Q (.bl true) H'):Gj ([.str (tx cs)]++[]) H Q E:=
 ⟨cs,rfl,fun c hc=>by have:=(h.g c hc).2; omega,by have:=h.n.2; omega,fun H' s'=>by rw[h.is]; exact q H' s'⟩
theorem Pr:∀cs:List Nat,jn [] (cs.map fun c=>[c])=cs
 | []=>rfl
 | [c]=>rfl
 | c::d::r=>by
  show[c]++[]++jn [] ((d::r).map fun c=>[c])=_;rw[Pr (d::r)]; rfl
theorem letter {i:Int} (h0:0<=i) (h1:i<26):Cm (Str.ofString "abcdefghijklmnopqrstuvwxyz").cps.toList i=some (97+i.toNat):=by
 obtain⟨j,rfl⟩:∃j:Nat,i=(j:Int):=⟨i.toNat,by omega⟩
 have hl:(Str.ofString "abcdefghijklmnopqrstuvwxyz").cps.toList=(List.range 26).map (97 + ·):=by decide +kernel
 rw[hl];refine bh ?_;rw[cJ,List.getElem?_range (by omega)]
 rfl
theorem N5 (l:List Nat) {j:Int} (h0:0<=j) (h1:j<=l.length):Txt.slice (tx l) none (some j)=tx (l.take j.toNat):=by
 have:=beq_iff_eq.mp (PyProof.Rows.slice_closes_toL (x:=tx l) h0 (by rw[fL]; exact h1))
 rw[this,uX];simp[tx]
theorem N6 (l:List Nat) {j:Int} (h0:0<=j) (h1:j<=l.length):Txt.slice (tx l) (some j) none=tx (l.drop j.toNat):=by
 have:=beq_iff_eq.mp (PyProof.Rows.slice_closes_fromL (x:=tx l) (b:=(tx l).length) h0 (by rw[fL]; exact h1) rfl)
 rw[this,uX,fL];unfold tx
 congr 2
 exact Om (by rw[sY]; omega)
theorem KC {m:Nat} {g:Nat->Option Nat} (h:∀i j,i<j->j<m->g i≠g j):((List.range m).map g).Nodup:=by
 unfold List.Nodup;rw[List.pairwise_map];refine List.Pairwise.imp_of_mem ?_ List.pairwise_lt_range;intro a b ha hb hab;exact h a b hab (List.mem_range.mp hb)
def Q0 (y:Int) (i:Nat):Nat:=97+((y+7*(i:Int)) % 26).toNat
theorem aaI (y:Int) (i:Nat):XH (Q0 y i):=by
 unfold Q0 XH;have:=vW (y+7*(i:Int)) (show(26:Int)≠0 by decide)
 have:=Aj (y+7*(i:Int)) (show(0:Int)<26 by decide)
 omega
theorem aaH {y:Int} {i j:Nat} (h:i<j) (hj:j<26):Q0 y i≠Q0 y j:=by
 unfold Q0;have:=vW (y+7*(i:Int)) (show(26:Int)≠0 by decide)
 have:=vW (y+7*(j:Int)) (show(26:Int)≠0 by decide)
 omega
theorem word {a:Addr} {n:Nat} {LT:Str} {r:St} {H:Hp} {Q:VK} (hLl:LT.length<=sizeLine) (Py:∀i:Int,0<=i->i<26->Cm LT.cps.toList i=some (97+i.toNat)) (hc:b7 [2,0] (some (.ref a)::r)=[some (.str LT),some (.ref a)]) (tp:Tp H a n) (hn:n<=200000000)
  (q:∀acc (cs:List Nat) H',cs.length<=7->(∀c∈cs,XH c)->H' acc=some (.lst (cs.map fun c=>V.str (tx [c])))->Tp H' a (n+10)->SX a H H'->Q (.ref acc) H') :
  gQ [2,0] (zm (qH (mQ fM [] E0 (qH (uw 0) (qH (tC (V.int 8)) CV))) CV)) (Vy ZG (uw 1) (mQ fM [] E0 (qH (uw 2) (qH (tC (V.int 26)) CV)))) (some (.ref a)::r) H Q:=by
 rw[rY];walk_at "rd";refine b_.of tp (by omega) (by decide) (by decide) fun y6 H6 l6 u6 t6 s6=>?_
 refine CK.of (n:=y6.toNat) (by omega) (by omega) fun acc hacc=>?_
 have ca:acc≠a:=t6.ne hacc;refine⟨fun j ws H'=>∃cs:List Nat,cs.length=j/\ws=cs.map (fun c=>V.str (tx [c]))/\(∀c∈cs,XH c)/\H' acc=some (.lst ws)/\Tp H' a (n+1+j)/\SX a H6 H',?_,?_,?_⟩
 ·exact⟨[],rfl,rfl,fun d h=>by simp at h,aC,t6.dR ca,(SX.refl a H6).dR hacc ca⟩
 ·rintro j ws H7 hj ⟨cs,lc,rfl,hcs,c7,t7,s7⟩;rw[hc];walk_at "rd";refine b_.of t7 (by omega) (by decide) (by decide) fun y8 H8 l8 u8 t8 s8=>?_
  refine⟨LT,_,_,rfl,rfl,hLl,Py y8 l8 u8,s8.get ca c7,by rw[bZ,lc]; exact aY (by omega),cs++[97+y8.toNat],by rw[cN,lc]; rfl,by rw[gY]; rfl,fun x hx=>?_,aC,(t8.dR ca).mono (by omega),(s7.trans s8).dR hacc ca⟩
  rcases fZ.mp hx with h | h
  ·exact hcs x h
  ·rw[gJ.mp h]; unfold XH; omega
 ·rintro ws H7 ⟨cs,lc,rfl,hcs,c7,t7,s7⟩;exact q acc cs H7 (by omega) hcs c7 (t7.mono (by omega)) (s6.trans s7)
theorem VG {a p:Addr} {H H':Hp} (s:SX a H H') (n:p≠a) (h:H' p=none):H p=none:=by
 cases e:H p with
 | none=>rfl
 | some o=>rw[s.get n e] at h; cases h
theorem JK {cs:List Nat} (h:cs.length<=7):((cs.map fun c=>tx [c]).map fun x=>x.length).sum+(cs.map fun c=>tx [c]).length*(Str.ofString "").length<=sizeLine:=by
 have:=StrLaws.sumLen_le (B:=1) (cs.map fun c=>tx [c]) (fun y hy=>by
  obtain⟨x,hx,rfl⟩:=du.mp hy
  exact bL _)
 rw[bZ] at this ⊢;rw[show(Str.ofString "").length=0 from rfl,sizeLine_eq];omega
def VN:Sp:=fun vs H Q _=>∃(a:Addr) (n m:Nat),vs=[.ref a,.int m]/\m<=20/\Tp H a n/\n<=100000000/\∀p (zs:List (List Nat)) H',H p=none->p≠a->zs.length=m->(∀z∈zs,Q4 z)->zs.Nodup->H' p=some (.lst (zs.map fun z=>V.str (tx z)))->Tp H' a (n+300)->SX a H H'->Q (.ref p) H'
theorem vC:aV ["_law_tape_here","_law_many","_law_letters","_law_first","_law_stem","_law_spot","_law_like","_law_found","_law_k","_law_letter"] ["_law_tape_here","_law_many"] (aF sS):=(by walk_at "c")
theorem Hc (F:iK K "_law_names" "_law_names" sS f fd) (B:Bi mg) (aM:Ct P w K mg base k "_law_draw" ["_law_tape_here","_law_many"] fM):bJ P w K mg base gf (k+1) f fd ["_law_tape_here","_law_many"] VN:=by
 refine F.ok vC (by rintro vs H Q E ⟨a,n,m,rfl,_⟩; rfl) (fun cdv A outer s H vs Q E hr h=>?_)
 obtain⟨a,n,m,rfl,hm,tp,hn,q⟩:=h;have ND:=vC.nd;refine⟨_,(aq (dX (bx (ao iH (ao (pf aM hr (ao (pv 0) (ao aA ak))) ak))) (bU (K:=K) (n:=2) rfl rfl (aK (aJ (i:=2) ND rfl (by walk_at "o")) (aK (aJ (i:=3) ND rfl (by walk_at "o")) bT)))) (aq (aX (i:=4) ND rfl (by walk_at "o") (g_ (K:=K) rfl PySem.F.plainAttrs_str PySem.F.slot_str_join PySem.F.type_str_join Jy iH (ao (cV (N':=["_law_k","_law_letters","_law_tape_here"]) (js:=[2,0]) rfl (dF (by rfl) B.range (ao (pf aM hr (ao (pv 0) (ao aA ak))) ak)) qC.mk2 rfl (by decide) rfl (fun fp s' H'=>(bB Hq (pv 1) (pf aM hr (ao (pv 2) (ao aA ak))) (fun _ _=>rfl)))) ak))) (aq (RP (i:=5) (j:=6) (l:=7) rfl ND rfl rfl rfl rfl rfl rfl (ao (pf aM hr (ao (pv 0) (ao (aU bC (pb (rK) B.len d9 (ao (pv 4) ak)) aA) ak))) (ao (eQ gR (pf aM hr (ao (pv 0) (ao aA ak))) aA (bw _)) (ao (bG ak) ak))) (by rfl)) (aq (gA PassesOwn.never rfl (dF (by rfl) B.range (ao (pv 1) ak)) (aJ (i:=8) ND rfl (by walk_at "o")) (aq (aX (i:=9) ND rfl (by walk_at "o") (bB Hq (pv 2) (aU lM (aU bC (pv 3) (aU j5 aA (pv 8))) aA) (fun _ _=>rfl))) (aH (cP (fQ (pv 6)) (aH (bO (g_ (K:=K) rfl PySem.F.plainAttrs_list PySem.F.slot_list_append PySem.F.type_list_append fC (pv 7) (ao (aU qd (aU qd (cQ N7 (pv 4) dZ (dY (pv 5))) (pv 9)) (cQ N7 (pv 4) (dY (pv 5)) dZ)) ak)))) (aH (bO (g_ (K:=K) rfl PySem.F.plainAttrs_list PySem.F.slot_list_append PySem.F.type_list_append fC (pv 7) (ao (aU qd (g_ (K:=K) rfl PySem.F.plainAttrs_str PySem.F.slot_str_join PySem.F.type_str_join Jy iH (ao (cV (N':=["_law_turn","_law_letters","_law_tape_here"]) (js:=[2,0]) rfl (dF (by rfl) B.range (ao (pf aM hr (ao (pv 0) (ao aA ak))) ak)) qC.mk2 rfl (by decide) rfl (fun fp s' H'=>(bB Hq (pv 1) (pf aM hr (ao (pv 2) (ao aA ak))) (fun _ _=>rfl)))) ak)) (pv 9)) ak)))))))) (aH (a_ (pv 7))))))),?_⟩
 walk_at "rd";refine b_.of tp (by omega) (by decide) (by decide) fun y1 H1 l1 u1 t1 s1=>⟨by decide,fun p2 H2 f2 s2 e2=>?_⟩
 refine⟨p2,_,rfl,e_.of e2,rfl,?_⟩;generalize hL:Str.ofString "abcdefghijklmnopqrstuvwxyz" = LT;have hLl:LT.length<=sizeLine:=by rw[<- hL]; decide
 have Py:∀i:Int,0<=i->i<26->Cm LT.cps.toList i=some (97+i.toNat):=fun i h0 h1=>by rw[<- hL]; exact letter h0 h1
 walk_at "rd";refine⟨rfl,?_⟩;refine word hLl Py rfl (t1.same s2) (by omega) fun acc st H3 ls gs e3 t3 s3=>?_
 have ej:∀cs:List Nat,Str.join (Str.ofString "") (cs.map fun c=>tx [c])=tx cs:=fun cs=>by
  rw[show Str.ofString "" = tx [] from rfl,show(cs.map fun c=>tx [c])=(cs.map fun c=>[c]).map tx by rw[xH]; rfl,JH,Pr]
 refine⟨_,acc,st.map fun c=>tx [c],rfl,rfl,by rw[e3,xH]; rfl,?_,?_⟩
 ·exact JK ls
 rw[ej];refine⟨tx st,rfl,by rw[fL,sizeLine_eq]; omega,?_⟩
 rw[fL];refine b_.of t3 (by omega) (by omega) (by omega) fun y4 H4 l4 u4 t4 s4=>?_
 refine b_.of t4 (by omega) (by decide) (by decide) fun y5 H5 l5 u5 t5 s5=>?_
 walk_at "rd";refine⟨by decide,fun p H6 f6 s6 e6=>?_⟩
 have pa:=t5.ne f6;have x5:SX a H H5:=s1.trans ((SX.of s2).trans (s3.trans (s4.trans s5)));have fHp:H p=none:=VG x5 pa f6;generalize decide (y5=0)=lk
 obtain⟨g,hg1,hg2⟩:∃g:List Nat->Option Nat,(∀c,lk=true->g (st.take y4.toNat++[c]++st.drop y4.toNat)=some c)/\∀b c,lk=false->g (b++[c])=some c:=by
  cases lk with
  | true=>exact⟨fun z=>z[y4.toNat]?,fun c _=>by
    show(st.take y4.toNat++[c]++st.drop y4.toNat)[y4.toNat]?=some c
    rw[Dl,Ds (by rw[mD]; omega),mD,Nat.min_eq_left (by omega),Dv]; rfl,(fun _ _ h=>by cases h)⟩
  | false=>exact⟨fun z=>z.getLast?,(fun _ h=>by cases h),fun b c _=>by simp⟩
 refine⟨_,_,_,rfl,?_⟩;rw[mL];walk_at "rd";refine FK.of (n:=m) rfl (by omega) (fun i σ H'=>∃(zs:List (List Nat)) (o8 o9:Option V),σ=[some (.ref a),some (.int m),some (.str LT),some (.int y1),some (.str (tx st)),some (.int y4),some (.bl lk),some (.ref p),o8,o9]/\zs.length=i/\(∀z∈zs,Q4 z)/\zs.map g=(List.range i).map (fun j=>some (Q0 y1 j))/\H' p=some (.lst (zs.map fun z=>V.str (tx z)))/\Tp H' a (n+20+10*i)/\SX a H H')
  ⟨[],none,none,rfl,rfl,fun z hz=>by simp at hz,rfl,e6,(t5.same s6).mono (by omega),x5.trans (SX.of s6)⟩ ?_ ?_
 ·rintro i σ H7 hi ⟨zs,o8,o9,rfl,lz,hzs,hgz,e7,t7,s7⟩;walk_at "rd";refine⟨.inl ⟨by omega,by omega⟩,by decide,?_⟩
  have m0:=vW (y1+7*(0+(i:Int))) (show(26:Int)≠0 by decide)
  have m1:=Aj (y1+7*(0+(i:Int))) (show(0:Int)<26 by decide)
  refine⟨LT,_,_,rfl,rfl,hLl,Py _ m0 m1,?_⟩;have ec:97+((y1+7*(0+(i:Int))) % 26).toNat=Q0 y1 i:=by unfold Q0; rw[Int.zero_add]
  rw[ec,Vt];have aam:=aaI y1 i
  have hcn:∀b:List Nat,g b=some (Q0 y1 i)->(zs++[b]).map g=(List.range (i+1)).map fun j=>some (Q0 y1 j):=fun b hb=>by
   rw[gY,hgz,List.range_succ,gY];simp[hb]
  have hmem:∀b:List Nat,Q4 b->∀z∈zs++[b],Q4 z:=fun b hb z hz=>by
   rcases fZ.mp hz with h | h
   ·exact hzs z h
   ·rw[gJ.mp h]; exact hb
  dsimp only;cases hlk:lk with
  | true=>
   rw[bu rfl];refine⟨.inl ⟨rfl,_,cg.of e7⟩,tx st,rfl,by rw[fL,sizeLine_eq]; omega,?_⟩
   rw[N5 st l4 (by omega)]
   refine⟨_,_,rfl,rfl,by rw[fL,fL,sizeLine_eq,mD]; simp only[gZ,vX]; omega,tx st,rfl,by rw[fL,sizeLine_eq]; omega,?_⟩
   rw[N6 st l4 (by omega),uY]
   refine⟨_,_,rfl,rfl,?_,?_⟩
   ·rw[fL,fL,sizeLine_eq]; simp only[cN,mD,sY,gZ,vX]; omega
   rw[uY];refine⟨p,_,_,rfl,rfl,e7,by rw[bZ,lz]; exact aY (by omega),zs++[_],_,_,rfl,by rw[cN,lz]; rfl,hmem _ ⟨?_,?_⟩,hcn _ (hg1 _ hlk),by rw[aC,gY]; rfl,(t7.dR pa).mono (by omega),s7.dR fHp pa⟩
   ·simp only[cN,mD,sY,gZ,vX]; omega
   ·intro c hc;rcases fZ.mp hc with h | h
    ·rcases fZ.mp h with h | h
     ·exact gs c (vZ h)
     ·rw[gJ.mp h]; exact aam
    ·exact gs c (GJ h)
  | false=>
   rw[aZ (by decide)]
   refine⟨.inl ⟨rfl,_,cg.of e7⟩,rfl,?_⟩;refine word hLl Py rfl t7 (by omega) fun Xv cs H8 lc gc e8 t8 s8=>?_
   refine⟨_,Xv,cs.map fun c=>tx [c],rfl,rfl,by rw[e8,xH]; rfl,JK lc,?_⟩
   rw[ej];refine⟨_,_,rfl,rfl,by rw[fL,fL,sizeLine_eq]; simp only[gZ,vX]; omega,?_⟩
   rw[uY];refine⟨p,_,_,rfl,rfl,s8.get pa e7,by rw[bZ,lz]; exact aY (by omega),zs++[_],_,_,rfl,by rw[cN,lz]; rfl,hmem _ ⟨?_,?_⟩,hcn _ (hg2 _ _ hlk),by rw[aC,gY]; rfl,(t8.dR pa).mono (by omega),(s7.trans s8).dR fHp pa⟩
   ·simp only[cN,gZ,vX]; omega
   ·intro c hc;rcases fZ.mp hc with h | h
    ·exact gc c h
    ·rw[gJ.mp h]; exact aam
 ·rintro σ H7 ⟨zs,o8,o9,rfl,lz,hzs,hgz,e7,t7,s7⟩;walk_at "rd";refine q p zs H7 fHp pa lz hzs ?_ e7 (t7.mono (by omega)) s7
  have h1:(zs.map g).Nodup:=by
   rw[hgz];exact KC fun i j hij hj z=>aaH hij (by omega) (Option.some.inj z)
  unfold List.Nodup at h1 ⊢;rw[List.pairwise_map] at h1;exact h1.imp fun h e=>h (by rw[e])
theorem Nm.of {a:Addr} {n m:Nat} {j:Int} {H:Hp} {Q:VK} {E:XK} (ej:j=m) (hm:m<=20) (tp:Tp H a n) (hn:n<=100000000) (q:∀p (zs:List (List Nat)) H',H p=none->p≠a->zs.length=m->(∀z∈zs,Q4 z)->zs.Nodup->H' p=some (.lst (zs.map fun z=>V.str (tx z)))->Tp H' a (n+300)->SX a H H'->Q (.ref p) H'):VN ([.ref a,.int j]++[]) H Q E:=by
 subst ej;exact⟨a,n,m,rfl,hm,tp,hn,q⟩
theorem jM (x:gM):tL (dz x)=true:=by
 have h:tL (vO x.jl)=true:=by
  show bK (x.jl.map vQ)=true;exact bf.mpr fun d hd=>by obtain⟨rs,_,rfl⟩:=du.mp hd; exact vP rs
 unfold dz Oz;simp[tL,bK,h]
theorem fB (xs:List gM):bK (xs.map dz)=true:=bf.mpr fun d hd=>by obtain⟨x,_,rfl⟩:=du.mp hd; exact jM x
theorem dU (xs:List jD):bK (xs.map qL)=true:=bf.mpr fun d hd=>by obtain⟨x,_,rfl⟩:=du.mp hd; exact qK x
theorem Rj (l:List Int):tL (gm l)=true:=by show bK (l.map PyData.int)=true; exact gB l
theorem iQ (xs:List (List Int)):bK (xs.map gm)=true:=bf.mpr fun d hd=>by obtain⟨x,_,rfl⟩:=du.mp hd; exact Rj x
structure Rw where
 n:Str
 c:Int
 d:Int
 a:Int
 h:Int
def Jg (r:Rw):PyData:=.tuple [.str r.n,.int r.c,.int r.d,.int r.a,.int r.h]
theorem rw_noL (r:Rw):tL (Jg r)=true:=rfl
theorem jL (xs:List Rw):bK (xs.map Jg)=true:=bf.mpr fun d hd=>by obtain⟨x,_,rfl⟩:=du.mp hd; exact rw_noL x
structure Yd where
 tot:Int
 ns:List Str
 ps:List gM
 os:List (Option Str)
 ss:List jD
 ts:List (List Int)
 pa:List (List Rw)
structure Ya where
 p:Addr
 lo:Addr
 dp:Addr
 dn:Addr
 ds:Addr
 dt:Addr
 lp:Addr
 ou:List Addr
def Ya.own (a:Ya):List Addr:=[a.p,a.lo,a.dp,a.dn,a.ds,a.dt,a.lp]++a.ou
def Bx (t:Int) (lo dp dn ds dt lp:Addr):List (Str×V):=[("total",.int t),("order",.ref lo),("posts",.ref dp),("onwards",.ref dn),("stands",.ref ds),("tallies",.ref dt),("past",.ref lp)]
section
variable (t:Int) (lo dp dn ds dt lp:Addr)
theorem Er:(Bx t lo dp dn ds dt lp).lookup ("total" : Str)=some (.int t):=by kernel_rfl
theorem kY:(Bx t lo dp dn ds dt lp).lookup ("order" : Str)=some (.ref lo):=by kernel_rfl
theorem rE:(Bx t lo dp dn ds dt lp).lookup ("posts" : Str)=some (.ref dp):=by kernel_rfl
theorem ql:(Bx t lo dp dn ds dt lp).lookup ("onwards" : Str)=some (.ref dn):=by kernel_rfl
theorem oH:(Bx t lo dp dn ds dt lp).lookup ("stands" : Str)=some (.ref ds):=by kernel_rfl
theorem qj:(Bx t lo dp dn ds dt lp).lookup ("tallies" : Str)=some (.ref dt):=by kernel_rfl
theorem BJ:(Bx t lo dp dn ds dt lp).lookup ("past" : Str)=some (.ref lp):=by kernel_rfl
end
def j_:Option Str->V
 | none=>.non
 | some s=>.str s
def Ec:Option Str->PyData
 | none=>.none
 | some s=>.str s
theorem G6 (o:Option Str):tL (Ec o)=true:=by cases o <;> rfl
theorem Ss (os:List (Option Str)):bK (os.map Ec)=true:=bf.mpr fun d hd=>by obtain⟨x,_,rfl⟩:=du.mp hd; exact G6 x
theorem O8 {H:Hp} (o:Option Str):At H (Ec o) (j_ o):=by cases o with
 | none=>show At _ .none .non; unfold At; rfl
 | some z=>exact At.str _
theorem UW {H:Hp} {o:Option Str} {v:V} (h:At H (Ec o) v):v=j_ o:=by
 cases o with
 | none=>unfold Ec At at h; exact h
 | some z=>unfold Ec At at h; exact h
theorem O7 {H:Hp}:∀{os:List (Option Str)} {vs:List V},aj H (os.map Ec) vs->vs=os.map j_
 | [],_,h=>aj.gk h
 | o::os,vs,h=>by
  obtain⟨x,r,rfl,h1,h2⟩:=aj.aR h;rw[UW h1,O7 h2]; rfl
def bR (H:Hp):List Addr->List (List Rw)->Prop
 | [],[]=>True
 | l::ls,r::rs=>(∃xs,H l=some (.lst xs)/\aj H (r.map Jg) xs)/\bR H ls rs
 | _,_=>False
theorem bR.length {H:Hp}:∀{ls:List Addr} {rs:List (List Rw)},bR H ls rs->ls.length=rs.length
 | [],[],_=>rfl
 | l::ls,r::rs,h=>by rw[gZ,gZ,bR.length h.2]
 | [],_::_,h=>h.elim
 | _::_,[],h=>h.elim
theorem bR.keep {H H':Hp} (m:dI H H'):∀{ls:List Addr} {rs:List (List Rw)},bR H ls rs->(∀b∈ls,∀o,H b=some o->H' b=some o)->bR H' ls rs
 | [],[],_,_=>trivial
 | l::ls,r::rs,h,k=>by
  obtain⟨⟨xs,e,a⟩,h2⟩:=h;exact⟨⟨xs,k l (iV ..) _ e,aj.kp m _ _ (jL r) a⟩,bR.keep m h2 fun b hb=>k b (g8 _ hb)⟩
 | [],_::_,h,_=>h.elim
 | _::_,[],h,_=>h.elim
theorem bR.snoc {H:Hp}:∀{ls:List Addr} {rs:List (List Rw)} {l:Addr} {r:List Rw} {xs:List V},bR H ls rs->H l=some (.lst xs)->aj H (r.map Jg) xs->bR H (ls++[l]) (rs++[r])
 | [],[],l,r,xs,_,e,a=>⟨⟨xs,e,a⟩,trivial⟩
 | l::ls,r::rs,_,_,_,h,e,a=>⟨h.1,bR.snoc h.2 e a⟩
 | [],_::_,_,_,_,h,_,_=>h.elim
 | _::_,[],_,_,_,h,_,_=>h.elim
theorem bR.all {H:Hp}:∀{ls:List Addr} {rs:List (List Rw)},bR H ls rs->∀b∈ls,∃xs,H b=some (.lst xs)
 | [],[],_,b,hb=>by simp at hb
 | l::ls,r::rs,h,b,hb=>by
  rcases bI.mp hb with e | e
  ·subst e; obtain⟨⟨xs,e,_⟩,_⟩:=h; exact⟨xs,e⟩
  ·exact bR.all h.2 b e
 | [],_::_,h,_,_=>h.elim
 | _::_,[],h,_,_=>h.elim
structure bD (C:Addr) (H:Hp) (a:Ya) (y:Yd):Prop where
 ob:∃dx,H a.p=some (.ins C dx (Bx y.tot a.lo a.dp a.dn a.ds a.dt a.lp))
 lo:H a.lo=some (.lst (y.ns.map V.str))
 dp:∃vs,H a.dp=some (.dK (zK y.ns vs))/\aj H (y.ps.map dz) vs
 dn:H a.dn=some (.dK (zK y.ns (y.os.map j_)))
 ds:∃vs,H a.ds=some (.dK (zK y.ns vs))/\aj H (y.ss.map qL) vs
 dt:∃vs,H a.dt=some (.dK (zK y.ns vs))/\aj H (y.ts.map gm) vs
 lp:H a.lp=some (.lst (a.ou.map V.ref))
 pa:bR H a.ou y.pa
 nd:a.own.Nodup
theorem bD.keep {C:Addr} {H H':Hp} {a:Ya} {y:Yd} (A:bD C H a y) (m:dI H H') (k:∀b∈a.own,∀o,H b=some o->H' b=some o):bD C H' a y:=by
 obtain⟨⟨dx,h1⟩,h2,⟨v3,h3,g3⟩,h4,⟨v5,h5,g5⟩,⟨v6,h6,g6⟩,h7,h8,h9⟩:=A;have kk:∀b o,b∈[a.p,a.lo,a.dp,a.dn,a.ds,a.dt,a.lp]->H b=some o->H' b=some o:=fun b o hb e=>k b (Ol _ hb) o e;exact⟨⟨dx,kk _ _ (by simp) h1⟩,kk _ _ (by simp) h2,⟨v3,kk _ _ (by simp) h3,aj.kp m _ _ (fB _) g3⟩,kk _ _ (by simp) h4,⟨v5,kk _ _ (by simp) h5,aj.kp m _ _ (dU _) g5⟩,⟨v6,kk _ _ (by simp) h6,aj.kp m _ _ (iQ _) g6⟩,kk _ _ (by simp) h7,h8.keep m fun b hb=>k b (iG _ hb),h9⟩
theorem bD.mono {C:Addr} {H H':Hp} {a:Ya} {y:Yd} (A:bD C H a y) (s:aP H H'):bD C H' a y:=A.keep s.kp fun b _ o e=>s b o e
theorem bD.al {C:Addr} {H:Hp} {a:Ya} {y:Yd} (A:bD C H a y):∀b∈a.own,∃o,H b=some o/\∀xs,o≠.tup xs:=fun b hb=>by
 obtain⟨⟨dx,h1⟩,h2,⟨v3,h3,g3⟩,h4,⟨v5,h5,g5⟩,⟨v6,h6,g6⟩,h7,h8,h9⟩:=A;rcases fZ.mp hb with h | h
 ·simp only[bI,dD,or_false] at h;rcases h with rfl | rfl | rfl | rfl | rfl | rfl | rfl
  ·exact⟨_,h1,fun _ z=>by cases z⟩
  ·exact⟨_,h2,fun _ z=>by cases z⟩
  ·exact⟨_,h3,fun _ z=>by cases z⟩
  ·exact⟨_,h4,fun _ z=>by cases z⟩
  ·exact⟨_,h5,fun _ z=>by cases z⟩
  ·exact⟨_,h6,fun _ z=>by cases z⟩
  ·exact⟨_,h7,fun _ z=>by cases z⟩
 ·obtain⟨xs,e⟩:=h8.all b h;exact⟨_,e,fun _ z=>by cases z⟩
theorem bD.kp {C:Addr} {H H':Hp} {a:Ya} {y:Yd} (A:bD C H a y) (f:Fr a.own H H'):dI H H':=f.kp fun b hb xs z=>by
 obtain⟨o,e,n⟩:=A.al b hb;rw[e] at z; cases z; exact n _ rfl
theorem bD.off {C:Addr} {H H':Hp} {a:Ya} {y:Yd} {S:List Addr} (A:bD C H a y) (f:Fr S H H') (m:dI H H') (d:∀b∈a.own,b∉S):bD C H' a y:=A.keep m fun b hb o e=>f b o e (d b hb)
structure ZY (K:PySem.W.Frag) (C:Addr):Prop where
 cl:Fq K C
 n1:cU K C "total"
 n2:cU K C "order"
 n3:cU K C "posts"
 n4:cU K C "onwards"
 n5:cU K C "stands"
 n6:cU K C "tallies"
 n7:cU K C "past"
section
variable {C:Addr} {H:Hp} {a:Ya} {y:Yd} {Q:VK}
theorem Fl.order (Z:ZY K C) (A:bD C H a y) (q:Q (.ref a.lo) H):∃p C' dx fs v,V.ref a.p=.ref p/\H p=some (.ins C' dx fs)/\Fq K C'/\cU K C' "order" /\ fs.lookup ("order" : Str)=some v/\Q v H:=by
 obtain⟨dx,h⟩:=A.ob;exact⟨_,_,_,_,_,rfl,h,Z.cl,Z.n2,kY ..,q⟩
theorem Fl.stands (Z:ZY K C) (A:bD C H a y) (q:Q (.ref a.ds) H):∃p C' dx fs v,V.ref a.p=.ref p/\H p=some (.ins C' dx fs)/\Fq K C'/\cU K C' "stands" /\ fs.lookup ("stands" : Str)=some v/\Q v H:=by
 obtain⟨dx,h⟩:=A.ob;exact⟨_,_,_,_,_,rfl,h,Z.cl,Z.n5,oH ..,q⟩
theorem Me.of {m:Str} {R:Addr->Prop} (A:bD C H a y) (h:∀t lo dp dn ds dt lp,(Bx t lo dp dn ds dt lp).lookup m=none) (q:R a.p):∃p dx fs,V.ref a.p=.ref p/\H p=some (.ins C dx fs)/\fs.lookup m=none/\R p:=by
 obtain⟨dx,e⟩:=A.ob;exact⟨_,_,_,rfl,e,h ..,q⟩
end
structure Mt (s:jD):Prop where
 r:0<=s.r
 c:s.cs.length=5
 cn:∀y∈s.cs,0<=y
 u:s.us.length=3
 ul:∀y∈s.us,y.length=3
theorem Mt.is {s:jD} (h:Mt s):Fj s:=⟨h.c,h.u,h.ul⟩
theorem StL.n {s:jD} (h:StL s):Mt s:=⟨h.r,h.c,h.cn,h.u,fun y hy=>by obtain⟨a,b,c,rfl,_⟩:=h.ul y hy; rfl⟩
def hnd (s:jD):Int:=s.r+s.cs.sum
def hands (ss:List jD):Int:=(ss.map hnd).sum
structure cW (y:Yd):Prop where
 nn:y.ns.Nodup
 n1:1<=y.ns.length
 n5:y.ns.length<=5
 lp:y.ps.length=y.ns.length
 lo:y.os.length=y.ns.length
 ls:y.ss.length=y.ns.length
 lt:y.ts.length=y.ns.length
 ng:∀n∈y.ns,∃cs,n=tx cs/\Q4 cs
 pg:∀x∈y.ps,Cq x
 og:∀(i:Nat) s,y.os[i]?=some (some s)->s∈y.ns.drop (i+1)
 sg:∀s∈y.ss,Mt s
 tg:∀t∈y.ts,t.length=3
 hs:hands y.ss<=y.tot
 lm:(y.ps.map gM.lo).sum<=y.tot
 pn:y.pa.length<=500
 pl:∀r∈y.pa,r.length<=5
abbrev T3:=Str×gM×Option Str
def Ks (t:T3):PyData:=.tuple [.str t.1,dz t.2.1,Ec t.2.2]
theorem VF (t:T3):tL (Ks t)=true:=by
 unfold Ks;simp[tL,bK,jM,G6]
theorem qI (ts:List T3):bK (ts.map Ks)=true:=bf.mpr fun d hd=>by obtain⟨x,_,rfl⟩:=du.mp hd; exact VF x
theorem Nu {H:Hp} {t:T3} {v:V} (h:At H (Ks t) v):∃a vp,v=.ref a/\H a=some (.tup [.str t.1,vp,j_ t.2.2])/\At H (dz t.2.1) vp:=by
 obtain⟨a,xs,rfl,h1,h2⟩:=bj h;obtain⟨x0,_,rfl,b0,h2⟩:=aj.aR h2;obtain⟨x1,_,rfl,b1,h2⟩:=aj.aR h2;obtain⟨x2,_,rfl,b2,h2⟩:=aj.aR h2;cases aj.gk h2;have e0:x0=.str t.1:=by unfold At at b0; exact b0
 have e2:=UW b2;subst e0 e2;exact⟨a,x1,rfl,h1,b1⟩
structure QF (H:Hp) (ts:List T3) (ys lD:List V):Prop where
 ly:ys.length=ts.length
 lv:lD.length=ts.length
 at_:∀(i:Nat) (t:T3),ts[i]?=some t->∃a vp,ys[i]?=some (.ref a)/\lD[i]?=some vp/\H a=some (.tup [.str t.1,vp,j_ t.2.2])
 ap:aj H ((ts.map (·.2.1)).map dz) lD
theorem QF.mono {H H':Hp} {ts:List T3} {ys lD:List V} (h:QF H ts ys lD) (m:dI H H'):QF H' ts ys lD:=
 ⟨h.ly,h.lv,fun i t e=>by obtain⟨a,vp,h1,h2,h3⟩:=h.at_ i t e; exact⟨a,vp,h1,h2,m _ _ h3⟩,aj.kp m _ _ (fB _) h.ap⟩
theorem vg {H:Hp}:∀{ts:List T3} {ys:List V},aj H (ts.map Ks) ys->∃lD,QF H ts ys lD
 | [],ys,h=>by
  cases aj.gk h;exact⟨[],rfl,rfl,fun i t e=>by simp at e,aj.nil⟩
 | t::ts,ys,h=>by
  obtain⟨x,r,rfl,h1,h2⟩:=aj.aR h;obtain⟨a,vp,rfl,e,ap⟩:=Nu h1;obtain⟨lD,g1,g2,g3,g4⟩:=vg h2;refine⟨vp::lD,by simp[g1],by simp[g2],fun i u q=>?_,aj.cons ap g4⟩
  cases i with
  | zero=>cases q; exact⟨a,vp,rfl,rfl,e⟩
  | succ i=>exact g3 i u q
def rW (ts:List T3) (lD:List V) (i:Nat):St:=match ts[i]? with
 | some t=>[some (.str t.1),some (lD.getD i .non),some (j_ t.2.2)]
 | none=>[none,none,none]
theorem jb (ts:List T3) (lD:List V) (i:Nat):(rW ts lD i).length=3:=by
 unfold rW;cases ts[i]? <;> rfl
theorem wz {K:PySem.W.Frag} {H:Hp} {ts:List T3} {ys lD:List V} (h:QF H ts ys lD) {i:Nat} {x:V} (hx:ys[i]?=some x) {cap:St} {R:St->Hp->Prop} (q:R (rW ts lD i++cap) H):LQ K 3 (jN (fK 0) (jN (fK 1) (jN (fK 2) Bw))) x (List.replicate 3 none++cap) H R:=by
 have hi:i<ts.length:=by rw[<- h.ly]; exact(iT.mp hx).1
 have et:ts[i]?=some ts[i]:=dN hi;obtain⟨a,vp,h1,h2,h3⟩:=h.at_ i _ et;rw[hx] at h1;cases h1;refine⟨a,_,rfl,e_.of h3,rfl,?_⟩;unfold rW at q;rw[et] at q;dsimp only at q;rw[lC,h2] at q;exact q
theorem iR {ts:List T3} {lD:List V} {i:Nat} {t:T3} (e:ts[i]?=some t):rW ts lD i=[some (.str t.1),some (lD.getD i .non),some (j_ t.2.2)]:=by
 unfold rW; rw[e]
theorem kj {H:Hp}:∀{ns:List Str} {ys:List V},aj H (ns.map .str) ys->ys=ns.map V.str
 | [],_,h=>aj.gk h
 | n::ns,ys,h=>by
  obtain⟨x,r,rfl,h1,h2⟩:=aj.aR h;have e:x=.str n:=by unfold At at h1; exact h1
  rw[e,kj h2]; rfl
theorem qJ (ns:List Str):bK (ns.map PyData.str)=true:=bf.mpr fun d hd=>by obtain⟨z,_,rfl⟩:=du.mp hd; rfl
def Aa:Sp:=fun vs H Q _=>∃(t:Int) (p:Addr) (ys:List V) (xs:List gM),vs=[.int t,.ref p]/\H p=some (.lst ys)/\aj H (xs.map dz) ys/\xs.length<=100/\(xs.map gM.lo).sum<=t/\∀H',aP H H'->Q .non H'
theorem mY:aV ["total","posts"] ["total","posts"] (aF jW):=(by walk_at "c")
theorem wF (F:iK K "check_least" "check_least" jW f fd) (B:Bi mg):bJ P w K mg base gf (k+1) f fd ["total","posts"] Aa:=by
 refine F.ok mY (by rintro vs H Q E ⟨t,p,ys,xs,rfl,_⟩; rfl) (fun cdv A outer s H vs Q E hr h=>?_)
 obtain⟨t,p,ys,xs,rfl,hp,ha,hl,hs,q⟩:=h;have ND:=mY.nd;refine⟨_,(aH (cP (bz yX (pb (gb rfl) B.sum nW (ao (cV (N':=["post"]) (js:=[]) rfl (bH (K:=K) rfl (pv 1)) qC.U3 rfl (by decide) rfl (fun fp s' H'=>(bB bA (bB bA (pv 0) aA (fun _ _=>rfl)) aA (fun _ _=>rfl)))) ak)) (pv 0) (bw _)) (aH wg) bM)),?_⟩
 walk_at "rd";have hlen:=ha.length;rw[bZ] at hlen;refine il ((xs.map gM.lo).map .int) (fun R hR=>by walk_at "rd"; exact hR) hp (by simp; omega) (by omega) (gB _) (fun i x d H' hx hd s' R hR=>?_) fun acc zs H' f' s' e' a'=>?_
 ·rw[cJ,cJ] at hd;obtain⟨d',hd',ad⟩:=ha.get hx;rw[cJ] at hd';cases ex:xs[i]? with
  | none=>rw[ex] at hd; cases hd
  | some x'=>
   rw[ex] at hd hd';cases hd;cases hd';obtain⟨a0,xs0,rfl,h1,h2⟩:=bj (ad.mono s');obtain⟨x0,_,rfl,b0,h2⟩:=aj.aR h2;obtain⟨x1,_,rfl,b1,h2⟩:=aj.aR h2;obtain⟨x2,_,rfl,b2,h2⟩:=aj.aR h2;obtain⟨c0,cs0,rfl,g1,g2⟩:=bj b2;have:=cO (cs:=[x'.lo,x'.hi]) g2;subst this;walk_at "rd";refine Ix.tup h1 (bh (j:=2) rfl) (Ix.tup g1 (bh (j:=0) rfl) ?_);exact hR _ _ (aP.refl _) (At.int _)
 ·have:=cO a';subst this;refine⟨acc,_,rfl,.inl e',?_⟩;rw[aZ (by simpa using hs)]
  exact q H' s'
def NQ:Sp:=fun vs H Q _=>∃(o:Option Str) (p:Addr) (ns:List Str),vs=[j_ o,.ref p]/\H p=some (.lst (ns.map V.str))/\(∀z,o=some z->z∈ns)/\∀H',aP H H'->Q .non H'
theorem lW:aV ["onward","behind"] ["onward","behind"] (aF jh):=(by walk_at "c")
theorem uD (F:iK K "check_onward" "check_onward" jh f fd):bJ P w K mg base gf (k+1) f fd ["onward","behind"] NQ:=by
 refine F.ok lW (by rintro vs H Q E ⟨o,p,ns,rfl,_⟩; rfl) (fun cdv A outer s H vs Q E hr h=>?_)
 obtain⟨o,p,ns,rfl,hp,ho,q⟩:=h;have ND:=lW.nd;refine⟨_,(aH (cP (PW.pt (GP (bz Ay (pv 0) iI (bw _)) (Ak (bz (K9 (K:=K) rfl) (pv 0) (pv 1) (by with_unfolding_all rfl))))) (aH wg) bM)),?_⟩
 walk_at "rd";cases o with
 | none=>exact⟨trivial,by rw[aZ (by simp[j_])]; exact q H (aP.refl H)⟩
 | some z=>
  refine⟨trivial,?_⟩;rw[bu (by simp[j_])]
  refine⟨p,_,rfl,.inl (cg.of hp),rfl,zE ns,_,rfl,?_⟩;rw[bu rfl,show j_ (some z)=.str z from rfl,JR,oW (ho z rfl),aZ (by decide)]
  exact q H (aP.refl H)
def Nz:Sp:=fun vs H Q _=>∃(t:Int) (p p':Addr) (ys zs:List V) (ss:List jD),vs=[.int t,.ref p,.ref p']/\H p=some (.lst ys)/\H p'=some (.lst zs)/\aj H (ss.map qL) zs/\(∀s∈ss,Mt s)/\ys.length=ss.length/\ss.length<=100/\hands ss<=t/\∀H',aP H H'->Q .non H'
theorem lV:aV ["total","posts","stands"] ["total","posts","stands"] (aF jg):=(by walk_at "c")
theorem uA (F:iK K "check_stands" "check_stands" jg f fd) (B:Bi mg) (dh:Ct P w K mg base k "hands_of" ["stand"] uN):bJ P w K mg base gf (k+1) f fd ["total","posts","stands"] Nz:=by
 refine F.ok lV (by rintro vs H Q E ⟨t,p,p',ys,zs,ss,rfl,_⟩; rfl) (fun cdv A outer s H vs Q E hr h=>?_)
 obtain⟨t,p,p',ys,zs,ss,rfl,hp,hp',ha,hS,hl,h100,hh,q⟩:=h;have ND:=lV.nd;refine⟨_,(aq (cP (bz Jw (pb (cH (K:=K) rfl) B.len d9 (ao (pv 2) ak)) (pb (cH (K:=K) rfl) B.len d9 (ao (pv 1) ak)) (bw _)) (aH wg) bM) (aH (cP (bz yX (pb (gb rfl) B.sum nW (ao (cV (N':=["stand"]) (js:=[]) rfl (bH (K:=K) rfl (pv 2)) qC.U3 rfl (by decide) rfl (fun fp s' H'=>(pf dh hr (ao (pv 0) ak)))) ak)) (pv 0) (bw _)) (aH wg) bM))),?_⟩
 have hlen:=ha.length;rw[bZ] at hlen;walk_at "rd";refine⟨p',_,rfl,.inl (cg.of hp'),p,_,rfl,.inl (cg.of hp),?_⟩;walk_at "rd";rw[aZ (by simp; omega)]
 refine il ((ss.map hnd).map .int) (fun R hR=>by walk_at "rd"; exact hR) hp' (by simp; omega) (by omega) (gB _) (fun i x d H' hx hd s' R hR=>?_) fun acc us H' f' s' e' a'=>?_
 ·rw[cJ,cJ] at hd;obtain⟨d',hd',ad⟩:=ha.get hx;rw[cJ] at hd';cases ex:ss[i]? with
  | none=>rw[ex] at hd; cases hd
  | some x'=>
   rw[ex] at hd hd';cases hd;cases hd';obtain⟨a0,xs0,rfl,h1,h2⟩:=bj (ad.mono s');obtain⟨x0,_,rfl,b0,h2⟩:=aj.aR h2;obtain⟨x1,_,rfl,b1,h2⟩:=aj.aR h2;obtain⟨x2,_,rfl,b2,h2⟩:=aj.aR h2;obtain⟨c0,cs0,rfl,g1,g2⟩:=bj b2;have:=cO (cs:=x'.cs) g2;subst this;have e1:x1=.int x'.r:=by unfold At at b1; exact b1
   subst e1;walk_at "rd";exact⟨_,_,_,_,_,_,_,rfl,rfl,h1,g1,hR _ _ (aP.refl _) (At.int _)⟩
 ·have:=cO a';subst this;refine⟨acc,_,rfl,.inl e',?_⟩;rw[aZ (by unfold hands at hh; simpa using hh)]
  exact q H' s'
structure Ie (t:Int) (ts:List T3):Prop where
 n1:1<=ts.length
 n5:ts.length<=5
 nn:(ts.map (·.1)).Nodup
 ng:∀x∈ts,∃cs,x.1=tx cs/\Q4 cs
 og:∀(i:Nat) (x:T3) z,ts[i]?=some x->x.2.2=some z->z∈(ts.map (·.1)).drop (i+1)
 lm:((ts.map (·.2.1)).map gM.lo).sum<=t
def Uv:Sp:=fun vs H Q _=>∃(t:Int) (p:Addr) (ys:List V) (ts:List T3),vs=[.int t,.ref p]/\H p=some (.lst ys)/\aj H (ts.map Ks) ys/\Ie t ts/\∀H',aP H H'->Q .non H'
theorem mX:aV ["total","posts","names","place","name","post","onward"] ["total","posts"] (aF jV):=(by walk_at "c")
theorem wD (F:iK K "check_posts" "check_posts" jV f fd) (B:Bi mg) (O:Co K mg) (tV:Ct P w K mg base k "is_name" ["thing"] Gj) (dG:Ct P w K mg base k "check_onward" ["onward","behind"] NQ) (eG:Ct P w K mg base k "check_least" ["total","posts"] Aa):bJ P w K mg base gf (k+1) f fd ["total","posts"] Uv:=by
 refine F.ok mX (by rintro vs H Q E ⟨t,p,ys,ts,rfl,_⟩; rfl) (fun cdv A outer s H vs Q E hr h=>?_)
 obtain⟨t,p,ys,ts,rfl,hp,ha,T,q⟩:=h;have ND:=mX.nd;refine⟨_,(aq (cP (nC (DX Ea Ea aA (pb (cH (K:=K) rfl) B.len d9 (ao (pv 1) ak)) (Ar O.Ih))) (aH wg) bM) (aq (qW (i:=2) ND rfl (by walk_at "o") (nt:=3) (N':=["name","post","onward"]) (js:=[]) rfl (bH (K:=K) rfl (pv 1)) pG.of (fun fp s' H'=>(bU (K:=K) (n:=3) rfl rfl (aK (aJ (i:=0) (by show List.Nodup (["name","post","onward"]:List Str); decide) rfl (.inl (fY rfl)) (.inr (fY rfl))) (aK (aJ (i:=1) (by show List.Nodup (["name","post","onward"]:List Str); decide) rfl (.inl (fY rfl)) (.inr (fY rfl))) (aK (aJ (i:=2) (by show List.Nodup (["name","post","onward"]:List Str); decide) rfl (.inl (fY rfl)) (.inr (fY rfl))) bT))))) (fun fp s' H'=>ik) (fun fp s' H'=>(pv 0))) (aq (cP (PW.pt (ug (bz wA (pb zQ B.len d9 (ao (pt (zP rfl) B.set Qv (ao (pv 2) ak)) ak)) (pb (cH (K:=K) rfl) B.len d9 (ao (pv 2) ak)) (bw _)) (nA (nC (fQ (pb (lq rfl) B.all xr (ao (cV (N':=["name"]) (js:=[]) rfl (bH (K:=K) rfl (pv 2)) qC.U3 rfl (by decide) rfl (fun fp s' H'=>(pf tV hr (ao (pv 0) ak)))) ak))))))) (aH wg) bM) (aq (gA PassesOwn.never rfl (R0 (K:=K) rfl B.enumerate (ao (pv 1) ak)) (bU (K:=K) (n:=2) rfl rfl (aK (aJ (i:=3) ND rfl (by walk_at "o")) (aK (bU (K:=K) (n:=3) rfl rfl (aK (aJ (i:=4) ND rfl (by walk_at "o")) (aK (aJ (i:=5) ND rfl (by walk_at "o")) (aK (aJ (i:=6) ND rfl (by walk_at "o")) bT)))) bT))) (aH (bO (pf dG hr (ao (pv 6) (ao (cQ qM (pv 2) (dY (aU bC (pv 3) aA)) dZ) ak)))))) (aH (bO (pf eG hr (ao (pv 0) (ao (jr (nt:=3) (N':=["name","post","onward"]) (js:=[]) rfl (bH (K:=K) rfl (pv 1)) pG.of (fun fp s' H'=>(bU (K:=K) (n:=3) rfl rfl (aK (aJ (i:=0) (by show List.Nodup (["name","post","onward"]:List Str); decide) rfl (.inl (fY rfl)) (.inr (fY rfl))) (aK (aJ (i:=1) (by show List.Nodup (["name","post","onward"]:List Str); decide) rfl (.inl (fY rfl)) (.inr (fY rfl))) (aK (aJ (i:=2) (by show List.Nodup (["name","post","onward"]:List Str); decide) rfl (.inl (fY rfl)) (.inr (fY rfl))) bT))))) (fun fp s' H'=>ik) (fun fp s' H'=>(pv 1))) ak))))))))),?_⟩
 have hlen:=ha.length;rw[bZ] at hlen;have T1:=T.n1;have T5:=T.n5;simp only[Oa 15];walk_at "rd";refine⟨p,ys,rfl,.inl (cg.of hp),⟨_,_,rfl,rfl,?_⟩⟩;rw[bu (by simp; omega)]
 refine⟨_,_,rfl,rfl,?_⟩;rw[aZ (by simp; omega)]
 obtain⟨lD,TA⟩:=vg ha;refine oM ((ts.map (·.1)).map .str) (rW ts lD) (jb ts lD) (fun R hR=>by walk_at "rd"; exact hR) hp (by simp; omega) (by omega) (qJ _) ?_ ?_
 ·intro i x d H' hx hd s';refine⟨fun R hR=>wz (TA.mono s'.kp) hx hR,fun R hR=>?_⟩;have hi:i<ts.length:=by rw[<- hlen]; exact(iT.mp hx).1
  have et:ts[i]?=some ts[i]:=dN hi;rw[cJ,cJ,et] at hd;cases hd;rw[iR et];walk_at "rd";exact hR _ _ (aP.refl _) (At.str _)
 ·intro acc us H1 f1 s1 e1 a1;have:=kj a1;subst this;refine⟨acc,ts.map (·.1),rfl,e1,by rw[bZ]; omega,fun pz H2 f2 s2 e2=>⟨pz,_,rfl,e2,?_,acc,_,rfl,.inl (cg.of (s2 _ _ e1)),?_⟩⟩
  ·have:=(oJ (ts.map (·.1))).1;rw[bZ] at this; omega
  have hdc:=oJ (ts.map (·.1));refine⟨_,_,rfl,rfl,?_⟩
  rw[aZ (by
   intro z;have z':=tG z;rw[bZ] at z'
   exact hdc.2.mp (by omega) T.nn)]
  have Va:=s2 _ _ e1;have s12:=s1.trans s2;refine il ((ts.map fun _=>true).map .bool) (fun R hR=>by walk_at "rd"; exact hR) Va (by simp) (by simp; omega) (bf.mpr fun d hd=>by obtain⟨z,_,rfl⟩:=du.mp hd; rfl) (fun i x d H' hx hd s' R hR=>?_) fun ab ub H3 f3 s3 e3 a3=>?_
  ·rw[cJ,cJ] at hx hd;cases et:ts[i]? with
   | none=>rw[et] at hx; cases hx
   | some t=>
    rw[et] at hx hd;cases hx;cases hd;obtain⟨cs,ec,hg⟩:=T.ng t (dM et);walk_at "rd";rw[ec];exact Name.of hg fun dC s''=>hR _ _ s'' (At.bool _)
  ·have eb:ub=(ts.map fun _=>true).map V.bl:=by
    have gen:∀(bs:List Bool) (us:List V),aj H3 (bs.map .bool) us->us=bs.map V.bl:=by
     intro bs
     induction bs with
     | nil=>intro us h; exact aj.gk h
     | cons b bs ih=>
      intro us h;obtain⟨x,r,rfl,h1,h2⟩:=aj.aR h;have e:x=.bl b:=by unfold At at h1; exact h1
      rw[e,ih r h2]; rfl
    exact gen _ _ a3
   subst eb;refine⟨ab,_,rfl,e3,?_⟩;rw[aZ (by simp)]
   have vN:=s12.trans s3;have Xn:=s3 _ _ Va;rw[Kq];walk_at "rd";refine EK.of (vN _ _ hp) (fun i σ H'=>∃o3 o4 o5 o6,σ=[some (.int t),some (.ref p),some (.ref acc),o3,o4,o5,o6]/\aP H3 H') ⟨_,_,_,_,rfl,aP.refl _⟩ (fun i σ H' _ ⟨_,_,_,_,_,z⟩=>z _ _ (vN _ _ hp)) ?_ ?_
   ·rintro i x σ H4 p4 hx ⟨o3,o4,o5,o6,rfl,s4⟩ f4;have hi:i<ts.length:=by rw[<- hlen]; exact(iT.mp hx).1
    have et:ts[i]?=some ts[i]:=dN hi;have Uz:=vN.trans s4;obtain⟨a0,vp,g1,g2,g3⟩:=(TA.mono Uz.kp).at_ i _ et;rw[hx] at g1;cases g1;have s5:=aQ f4 (HO.tup [V.int (i:Nat),.ref a0]);have e5:upd H4 p4 (HO.tup [V.int (i:Nat),.ref a0]) p4=some (.tup [V.int (i:Nat),.ref a0]):=aC;generalize upd H4 p4 (HO.tup [V.int (i:Nat),.ref a0])=H5 at s5 e5 ⊢;refine⟨p4,_,rfl,e_.of e5,rfl,?_⟩;walk_at "rd";refine⟨a0,_,rfl,e_.of (s5 _ _ g3),rfl,?_⟩;walk_at "rd";have eA:=s5 _ _ (s4 _ _ Xn);refine⟨acc,_,rfl,cg.of eA,fun q6 f6=>?_⟩;rw[kZ (by omega),show((i:Int)+1).toNat=i+1 by omega,<- Gv]
    have s6:=aQ f6 (HO.lst (((ts.map (·.1)).drop (i+1)).map V.str));refine⟨_,q6,_,rfl,aC,fun z hz=>T.og i _ z et hz,fun H7 s7=>⟨_,_,_,_,rfl,s4.trans (s5.trans (s6.trans s7))⟩⟩
   ·rintro σ H4 ⟨o3,o4,o5,o6,rfl,s4⟩;walk_at "rd";have Uz:=vN.trans s4;refine oM ((ts.map (·.2.1)).map dz) (rW ts lD) (jb ts lD) (fun R hR=>by walk_at "rd"; exact hR) (Uz _ _ hp) (by simp; omega) (by omega) (fB _) ?_ ?_
    ·intro i x d H' hx hd s';have TB:=TA.mono (Uz.trans s').kp;refine⟨fun R hR=>wz TB hx hR,fun R hR=>?_⟩;have hi:i<ts.length:=by rw[<- hlen]; exact(iT.mp hx).1
     have et:ts[i]?=some ts[i]:=dN hi;obtain⟨vp,ev,av⟩:=TB.ap.nth hd;rw[iR et];walk_at "rd";rw[lC,ev];exact hR _ _ (aP.refl _) av
    ·intro ac2 us2 H5 f5 s5 e5 a5;exact⟨t,ac2,us2,ts.map (·.2.1),rfl,e5,a5,by simp; omega,T.lm,fun H6 s6=>q H6 (Uz.trans (s5.trans s6))⟩
def Tq (t:Int):List (Str×V):=[("total",.int t)]
theorem pf1 (t:Int):jq "total" (.int t) []=Tq t:=by kernel_rfl
def Qd (t:Int) (lo:Addr):List (Str×V):=[("total",.int t),("order",.ref lo)]
theorem pf2 (t:Int) (lo:Addr):jq "order" (.ref lo) (Tq t)=Qd t lo:=by kernel_rfl
def Mx (t:Int) (lo dp:Addr):List (Str×V):=[("total",.int t),("order",.ref lo),("posts",.ref dp)]
theorem pf3 (t:Int) (lo dp:Addr):jq "posts" (.ref dp) (Qd t lo)=Mx t lo dp:=by kernel_rfl
def Mw (t:Int) (lo dp dn:Addr):List (Str×V):=[("total",.int t),("order",.ref lo),("posts",.ref dp),("onwards",.ref dn)]
theorem pf4 (t:Int) (lo dp dn:Addr):jq "onwards" (.ref dn) (Mx t lo dp)=Mw t lo dp dn:=by kernel_rfl
def Mv (t:Int) (lo dp dn ds:Addr):List (Str×V):=[("total",.int t),("order",.ref lo),("posts",.ref dp),("onwards",.ref dn),("stands",.ref ds)]
theorem pf5 (t:Int) (lo dp dn ds:Addr):jq "stands" (.ref ds) (Mw t lo dp dn)=Mv t lo dp dn ds:=by kernel_rfl
def QW (t:Int) (lo dp dn ds dt:Addr):List (Str×V):=[("total",.int t),("order",.ref lo),("posts",.ref dp),("onwards",.ref dn),("stands",.ref ds),("tallies",.ref dt)]
theorem pf6 (t:Int) (lo dp dn ds dt:Addr):jq "tallies" (.ref dt) (Mv t lo dp dn ds)=QW t lo dp dn ds dt:=by kernel_rfl
def fl7 (t:Int) (lo dp dn ds dt lp:Addr):List (Str×V):=[("total",.int t),("order",.ref lo),("posts",.ref dp),("onwards",.ref dn),("stands",.ref ds),("tallies",.ref dt),("past",.ref lp)]
theorem pf7 (t:Int) (lo dp dn ds dt lp:Addr):jq "past" (.ref lp) (QW t lo dp dn ds dt)=fl7 t lo dp dn ds dt lp:=by kernel_rfl
theorem L_ (t:Int) (lo dp dn:Addr):(Mw t lo dp dn).lookup ("order" : Str)=some (.ref lo):=by kernel_rfl
theorem LR (t:Int) (lo dp dn ds:Addr):(Mv t lo dp dn ds).lookup ("order" : Str)=some (.ref lo):=by kernel_rfl
def j7 (x:gM):jD:=⟨0,x.lo,[0,0,0,0,0],0,0,[[0,0,0],[0,0,0],[0,0,0]]⟩
def tM (t:Int) (ts:List T3) (ss:List jD):Yd:=⟨t,ts.map (·.1),ts.map (·.2.1),ts.map (·.2.2),ss,ts.map fun _=>[0,0,0],[]⟩
def Gf (C:Addr):Sp:=fun vs H Q _=>∃(y dx:Addr) (t:Int) (p:Addr) (ys:List V) (ts:List T3) (sv:V) (ss:List jD),vs=[.ref y,.int t,.ref p,sv]/\H y=some (.ins C dx [])/\H p=some (.lst ys)/\aj H (ts.map Ks) ys/\Ie t ts/\(∀x∈ts,Cq x.2.1)/\((sv=.non/\ss=ts.map fun x=>j7 x.2.1)\/∃l zs,sv=.ref l/\H l=some (.lst zs)/\aj H (ss.map qL) zs)/\ss.length=ts.length/\(∀z∈ss,Mt z)/\hands ss<=t /\
 ∀a H',a.p=y->bD C H' a (tM t ts ss)->a.ou=[]->(∀b∈a.own,b=y\/H b=none)->Fr [y] H H'->Q .non H'
theorem jK:aV ["self","total","posts","stands"] ["self","total","posts","stands"] (aF gW):=(by walk_at "c")
theorem qY {C T:Addr} (F:Ij K "__init__" "Yard.__init__" gW f fd T) (B:Bi mg) (Z:ZY K C) (j9:Ct P w K mg base k "check_posts" ["total","posts"] Uv) (j8:Ct P w K mg base k "first_stand" ["post"] Jc) (jB:Ct P w K mg base k "check_stands" ["total","posts","stands"] Nz):bJ P w K mg base (QK P w) (k+1) f fd ["self","total","posts","stands"] (Gf C):=by
 refine F.okE jK (by rintro vs H Q E ⟨y,dx,t,p,ys,ts,sv,ss,rfl,_⟩; rfl) (fun cdv A outer s H vs Q E h00 hr h=>?_)
 obtain⟨y,dx,t,p,ys,ts,sv,ss,rfl,hy,hp,ha,T3,hps,hsv,hls,hS,hh,q⟩:=h;have ND:=jK.nd;refine⟨_,(aq (bO (pf j9 hr (ao (pv 1) (ao (pv 2) ak)))) (aq (cP (bz A_ (pv 3) iI (bw _)) (aH (qW (i:=3) ND rfl (by walk_at "o") (nt:=3) (N':=["name","post","onward"]) (js:=[]) rfl (bH (K:=K) rfl (pv 2)) pG.of (fun fp s' H'=>(bU (K:=K) (n:=3) rfl rfl (aK (aJ (i:=0) (by show List.Nodup (["name","post","onward"]:List Str); decide) rfl (.inl (fY rfl)) (.inr (fY rfl))) (aK (aJ (i:=1) (by show List.Nodup (["name","post","onward"]:List Str); decide) rfl (.inl (fY rfl)) (.inr (fY rfl))) (aK (aJ (i:=2) (by show List.Nodup (["name","post","onward"]:List Str); decide) rfl (.inl (fY rfl)) (.inr (fY rfl))) bT))))) (fun fp s' H'=>ik) (fun fp s' H'=>(pf j8 hr (ao (pv 1) ak))))) bM) (aq (bO (pf jB hr (ao (pv 1) (ao (pv 2) (ao (pv 3) ak))))) (aq (lL (K:=K) rfl (pv 0) (pv 1)) (aq (lL (K:=K) rfl (pv 0) (jr (nt:=3) (N':=["name","post","onward"]) (js:=[]) rfl (bH (K:=K) rfl (pv 2)) pG.of (fun fp s' H'=>(bU (K:=K) (n:=3) rfl rfl (aK (aJ (i:=0) (by show List.Nodup (["name","post","onward"]:List Str); decide) rfl (.inl (fY rfl)) (.inr (fY rfl))) (aK (aJ (i:=1) (by show List.Nodup (["name","post","onward"]:List Str); decide) rfl (.inl (fY rfl)) (.inr (fY rfl))) (aK (aJ (i:=2) (by show List.Nodup (["name","post","onward"]:List Str); decide) rfl (.inl (fY rfl)) (.inr (fY rfl))) bT))))) (fun fp s' H'=>ik) (fun fp s' H'=>(pv 0)))) (aq (lL (K:=K) rfl (pv 0) (wj (nt:=3) (N':=["name","post","onward"]) (js:=[]) rfl (bH (K:=K) rfl (pv 2)) rQ.of (fun fp s' H'=>(bU (K:=K) (n:=3) rfl rfl (aK (aJ (i:=0) (by show List.Nodup (["name","post","onward"]:List Str); decide) rfl (.inl (fY rfl)) (.inr (fY rfl))) (aK (aJ (i:=1) (by show List.Nodup (["name","post","onward"]:List Str); decide) rfl (.inl (fY rfl)) (.inr (fY rfl))) (aK (aJ (i:=2) (by show List.Nodup (["name","post","onward"]:List Str); decide) rfl (.inl (fY rfl)) (.inr (fY rfl))) bT))))) (fun fp s' H'=>(pv 0)) (fun fp s' H'=>(pv 1)))) (aq (lL (K:=K) rfl (pv 0) (wj (nt:=3) (N':=["name","post","onward"]) (js:=[]) rfl (bH (K:=K) rfl (pv 2)) rQ.of (fun fp s' H'=>(bU (K:=K) (n:=3) rfl rfl (aK (aJ (i:=0) (by show List.Nodup (["name","post","onward"]:List Str); decide) rfl (.inl (fY rfl)) (.inr (fY rfl))) (aK (aJ (i:=1) (by show List.Nodup (["name","post","onward"]:List Str); decide) rfl (.inl (fY rfl)) (.inr (fY rfl))) (aK (aJ (i:=2) (by show List.Nodup (["name","post","onward"]:List Str); decide) rfl (.inl (fY rfl)) (.inr (fY rfl))) bT))))) (fun fp s' H'=>(pv 0)) (fun fp s' H'=>(pv 2)))) (aq (lL (K:=K) rfl (pv 0) (G5 rfl B.dict B.zip (ao (bQ (K:=K) rfl (pv 0)) (ao (pv 3) ak)))) (aq (lL (K:=K) rfl (pv 0) (wj (nt:=1) (N':=["name"]) (js:=[]) rfl (bH (K:=K) rfl (bQ (K:=K) rfl (pv 0))) rQ.of (fun fp s' H'=>(aJ (i:=0) (by show List.Nodup (["name"]:List Str); decide) rfl (.inl (fY rfl)) (.inr (fY rfl)))) (fun fp s' H'=>(pv 0)) (fun fp s' H'=>(bx (ao aA (ao aA (ao aA ak))))))) (aH (lL (K:=K) rfl (pv 0) (bG ak)))))))))))),?_⟩
 have hlen:=ha.length;rw[bZ] at hlen;have T1:=T3.n1;have T5:=T3.n5;obtain⟨lD,TA⟩:=vg ha;simp only[Zm];walk_at "rd";refine⟨t,p,ys,ts,rfl,hp,ha,T3,fun H1 s1=>?_⟩;refine uZ.of (R:=fun σ H'=>∃l zs,σ=[some (.ref y),some (.int t),some (.ref p),some (.ref l)]/\H' l=some (.lst zs)/\aj H' (ss.map qL) zs/\aP H H') ?_ ?_
 ·rintro σ H2 ⟨l,zs,rfl,e2,a2,s2⟩;walk_at "rd";have lz:=a2.length;rw[bZ] at lz;refine⟨t,p,l,ys,zs,ss,rfl,s2 _ _ hp,e2,a2,hS,by omega,by omega,hh,fun H3 s3=>?_⟩
  have Zt:=s2.trans s3;refine⟨y,C,dx,[],rfl,Zt _ _ hy,Z.cl,Z.n1,by decide,?_⟩
  have py:p≠y:=fun z=>by rw[z,hy] at hp; cases hp
  have ly:l≠y:=fun z=>by rw[z,s2 _ _ hy] at e2; cases e2
  have stp:∀{G:Hp} {fs fs':List (Str×V)},G y=some (.ins C dx fs)->Fr [y] H G->Fr [y] H (upd G y (.ins C dx fs'))/\dI G (upd G y (.ins C dx fs')):=fun {G fs fs'} g fr=>⟨fr.trans (Fr.put (by simp)),dI.put fun xs z=>by rw[g] at z; cases z⟩
  have gy3:H3 y=some (.ins C dx []):=Zt _ _ hy;have r3:Fr [y] H H3:=Zt.fr _;obtain⟨r3',k3⟩:=stp (fs':=Tq t) gy3 r3;have TA3:=TA.mono (Zt.kp.trans k3);have z3':=aj.kp k3 _ _ (dU _) (a2.mono s3);have hp3:upd H3 y (.ins C dx (Tq t)) p=some (.lst ys):=by rw[aN py]; exact Zt _ _ hp
  have hl3:upd H3 y (.ins C dx (Tq t)) l=some (.lst zs):=by rw[aN ly]; exact s3 _ _ e2
  have Xe:upd H3 y (.ins C dx (Tq t)) y=some (.ins C dx (Tq t)):=aC;rw[pf1];generalize upd H3 y (.ins C dx (Tq t))=K3 at r3' k3 TA3 z3' hp3 hl3 Xe ⊢;refine oM ((ts.map (·.1)).map .str) (rW ts lD) (jb ts lD) (fun R hR=>by walk_at "rd"; exact hR) hp3 (by simp; omega) (by omega) (qJ _) ?_ ?_
  ·intro i x d H' hx hd s';refine⟨fun R hR=>wz (TA3.mono s'.kp) hx hR,fun R hR=>?_⟩;have hi:i<ts.length:=by rw[<- hlen]; exact(iT.mp hx).1
   have et:ts[i]?=some ts[i]:=dN hi;rw[cJ,cJ,et] at hd;cases hd;rw[iR et];walk_at "rd";exact hR _ _ (aP.refl _) (At.str _)
  intro lo us4 H4 flo s4 elo a4;have:=kj a4;subst this;have gy4:=s4 _ _ Xe;refine⟨y,C,dx,Tq t,rfl,gy4,Z.cl,Z.n2,(show 1<1000 by decide),?_⟩
  have JD:lo≠y:=fun z=>by rw[z,Xe] at flo; cases flo
  obtain⟨r4',k4⟩:=stp (fs':=Qd t lo) gy4 (r3'.trans (s4.fr _));have TA4:=TA3.mono (s4.kp.trans k4);have z4':=aj.kp k4 _ _ (dU _) (z3'.mono s4);have hp4:upd H4 y (.ins C dx (Qd t lo)) p=some (.lst ys):=by rw[aN py]; exact s4 _ _ hp3
  have hl4:upd H4 y (.ins C dx (Qd t lo)) l=some (.lst zs):=by rw[aN ly]; exact s4 _ _ hl3
  have Xb:upd H4 y (.ins C dx (Qd t lo)) lo=some (.lst ((ts.map (·.1)).map V.str)):=by rw[aN JD]; exact elo
  have Th:upd H4 y (.ins C dx (Qd t lo)) y=some (.ins C dx (Qd t lo)):=aC
  have Yg:∀b,upd H4 y (.ins C dx (Qd t lo)) b=none->H b=none:=fun b z=>by
   cases q':H b with
   | none=>rfl
   | some o=>
    by_cases e:b=y
    ·rw[e,Th] at z; cases z
    ·rw[r4' b o q' (by simpa using e)] at z; cases z
  have adh:H lo=none:=by
   cases q':H lo with
   | none=>rfl
   | some o=>rw[r3' lo o q' (by simpa using JD)] at flo; cases flo
  rw[pf2];generalize upd H4 y (.ins C dx (Qd t lo))=K4 at r4' k4 TA4 z4' hp4 hl4 Xb Th Yg ⊢;refine uT (ts.map (·.1)) ((ts.map (·.2.1)).map dz) (rW ts lD) (jb ts lD) (fun R hR=>by walk_at "rd"; exact hR) hp4 T3.nn (by simp; omega) (by simp; omega) (by omega) (fB _) ?_ ?_
  ·intro i x nm d H' hx hn hd s';have TC:=TA4.mono s'.kp;have hi:i<ts.length:=by rw[<- hlen]; exact(iT.mp hx).1
   have et:ts[i]?=some ts[i]:=dN hi;obtain⟨vp,ev,av⟩:=TC.ap.nth hd;rw[cJ,et] at hn;cases hn;rw[iR et];refine⟨fun R hR=>wz TC hx (by rw[iR et]; exact hR),fun R hR=>by walk_at "rd"; exact hR,fun R hR=>?_⟩
   walk_at "rd";rw[lC,ev];exact hR _ _ (aP.refl _) av
  intro dp v5 H5 fdp s5 edp a5 l5;have gy5:=s5 _ _ Th;refine⟨y,C,dx,Qd t lo,rfl,gy5,Z.cl,Z.n3,(show 2<1000 by decide),?_⟩
  have Tt:dp≠y:=fun z=>by rw[z,Th] at fdp; cases fdp
  obtain⟨r5',k5⟩:=stp (fs':=Mx t lo dp) gy5 (r4'.trans (s5.fr _));have TA5:=TA4.mono (s5.kp.trans k5);have z5':=aj.kp k5 _ _ (dU _) (z4'.mono s5);have a5':=aj.kp k5 _ _ (fB _) a5;have hp5:upd H5 y (.ins C dx (Mx t lo dp)) p=some (.lst ys):=by rw[aN py]; exact s5 _ _ hp4
  have hl5:upd H5 y (.ins C dx (Mx t lo dp)) l=some (.lst zs):=by rw[aN ly]; exact s5 _ _ hl4
  have Ht:upd H5 y (.ins C dx (Mx t lo dp)) lo=some (.lst ((ts.map (·.1)).map V.str)):=by rw[aN JD]; exact s5 _ _ Xb
  have PB:upd H5 y (.ins C dx (Mx t lo dp)) dp=some (.dK (zK (ts.map (·.1)) v5)):=by rw[aN Tt]; exact edp
  have Tg:upd H5 y (.ins C dx (Mx t lo dp)) y=some (.ins C dx (Mx t lo dp)):=aC
  have fH5:∀b,upd H5 y (.ins C dx (Mx t lo dp)) b=none->K4 b=none:=fun b z=>by
   cases q':K4 b with
   | none=>rfl
   | some o=>
    by_cases e:b=y
    ·rw[e,Tg] at z; cases z
    ·rw[aN e,s5 _ _ q'] at z; cases z
  rw[pf3];generalize upd H5 y (.ins C dx (Mx t lo dp))=K5 at r5' k5 TA5 z5' a5' hp5 hl5 Ht PB Tg fH5 ⊢;refine uT (ts.map (·.1)) ((ts.map (·.2.2)).map Ec) (rW ts lD) (jb ts lD) (fun R hR=>by walk_at "rd"; exact hR) hp5 T3.nn (by simp; omega) (by simp; omega) (by omega) (Ss _) ?_ ?_
  ·intro i x nm d H' hx hn hd s';have TC:=TA5.mono s'.kp;have hi:i<ts.length:=by rw[<- hlen]; exact(iT.mp hx).1
   have et:ts[i]?=some ts[i]:=dN hi;rw[cJ,et] at hn;cases hn;rw[cJ,cJ,et] at hd;cases hd;rw[iR et];refine⟨fun R hR=>wz TC hx (by rw[iR et]; exact hR),fun R hR=>by walk_at "rd"; exact hR,fun R hR=>?_⟩
   walk_at "rd";exact hR _ _ (aP.refl _) (O8 _)
  intro dn v6 H6 fdn s6 edn a6 l6;have:=O7 a6;subst this;have gy6:=s6 _ _ Tg;refine⟨y,C,dx,Mx t lo dp,rfl,gy6,Z.cl,Z.n4,(show 3<1000 by decide),?_⟩
  have Yi:dn≠y:=fun z=>by rw[z,Tg] at fdn; cases fdn
  obtain⟨r6',k6⟩:=stp (fs':=Mw t lo dp dn) gy6 (r5'.trans (s6.fr _));rw[pf4];have ho6:∀b o,b≠y->K5 b=some o->upd H6 y (.ins C dx (Mw t lo dp dn)) b=some o:=fun b o e z=>by rw[aN e]; exact s6 _ _ z
  have z6':=aj.kp k6 _ _ (dU _) (z5'.mono s6);have a56:=aj.kp k6 _ _ (fB _) (a5'.mono s6);have Te:upd H6 y (.ins C dx (Mw t lo dp dn)) dn=some (.dK (zK (ts.map (·.1)) ((ts.map (·.2.2)).map j_))):=by rw[aN Yi]; exact edn
  have LC:upd H6 y (.ins C dx (Mw t lo dp dn)) y=some (.ins C dx (Mw t lo dp dn)):=aC
  have fH6:∀b,upd H6 y (.ins C dx (Mw t lo dp dn)) b=none->K5 b=none:=fun b z=>by
   cases q':K5 b with
   | none=>rfl
   | some o=>
    by_cases e:b=y
    ·rw[e,LC] at z; cases z
    ·rw[ho6 _ _ e q'] at z; cases z
  generalize upd H6 y (.ins C dx (Mw t lo dp dn))=K6 at r6' k6 z6' a56 Te LC fH6 ho6 ⊢;refine⟨y,C,dx,Mw t lo dp dn,.ref lo,rfl,LC,Z.cl,Z.n2,L_ ..,lo,l,(ts.map (·.1)).map Sum.inr,zs,rfl,by rw[xH]; exact ho6 _ _ JD Ht,ho6 _ _ ly hl5,by simp; omega,by simp; omega,fun ds H7 fds s7 eds=>?_⟩
  have adx:H7 ds=some (.dK (zK (ts.map (·.1)) zs)):=eds.trans (nq (fun q=>some (HO.dK q)) (CJ (ts.map fun x:K38.T3=>x.1) zs [] [] (by simpa using T3.nn) rfl (by simp; omega)))
  refine⟨y,C,dx,Mw t lo dp dn,rfl,s7 _ _ LC,Z.cl,Z.n5,(show 4<1000 by decide),?_⟩
  have dsy:ds≠y:=fun z=>by rw[z,LC] at fds; cases fds
  obtain⟨r7',k7⟩:=stp (fs':=Mv t lo dp dn ds) (s7 _ _ LC) (r6'.trans (s7.fr _));rw[pf5];have Td:∀b o,b≠y->K6 b=some o->upd H7 y (.ins C dx (Mv t lo dp dn ds)) b=some o:=fun b o e z=>by rw[aN e]; exact s7 _ _ z
  have z7':=aj.kp k7 _ _ (dU _) (z6'.mono s7);have a57:=aj.kp k7 _ _ (fB _) (a56.mono s7);have Xd:upd H7 y (.ins C dx (Mv t lo dp dn ds)) ds=some (.dK (zK (ts.map (·.1)) zs)):=by rw[aN dsy]; exact adx
  have PQ:upd H7 y (.ins C dx (Mv t lo dp dn ds)) y=some (.ins C dx (Mv t lo dp dn ds)):=aC
  have fH7:∀b,upd H7 y (.ins C dx (Mv t lo dp dn ds)) b=none->K6 b=none:=fun b z=>by
   cases q':K6 b with
   | none=>rfl
   | some o=>
    by_cases e:b=y
    ·rw[e,PQ] at z; cases z
    ·rw[Td _ _ e q'] at z; cases z
  generalize upd H7 y (.ins C dx (Mv t lo dp dn ds))=K7 at r7' k7 z7' a57 Xd PQ fH7 Td ⊢;refine uT (ts.map (·.1)) ((ts.map fun _=>([0,0,0]:List Int)).map gm) (fun i=>[some (((ts.map (·.1)).map V.str).getD i .non)]) (fun _=>rfl) (a:=lo) (fun R hR=>by walk_at "rd"; exact⟨y,C,dx,Mv t lo dp dn ds,.ref lo,rfl,PQ,Z.cl,Z.n2,LR ..,hR⟩) (Td _ _ JD (ho6 _ _ JD Ht)) T3.nn (by simp) (by simp) (by simp; omega) (iQ _) ?_ ?_
  ·intro i x nm d H' hx hn hd s';have ex:((ts.map (·.1)).map V.str).getD i .non=x:=by rw[lC,hx]; rfl
   rw[ex];rw[cJ,hn] at hx;cases hx;have hi:i<ts.length:=by have:=(iT.mp hn).1; simpa using this
   have et:ts[i]?=some ts[i]:=dN hi;rw[cJ,cJ,et] at hd;cases hd;refine⟨fun R hR=>by walk_at "rd"; exact hR,fun R hR=>by walk_at "rd"; exact hR,fun R hR=>?_⟩
   walk_at "rd";exact⟨by decide,fun p H5 f5 s5 e5=>hR _ _ s5 (At.tup e5 (aj.cons (At.int _) (aj.cons (At.int _) (aj.cons (At.int _) aj.nil))))⟩
  intro dt v8 H8 Xj s8 edt a8 l8;have gy8:=s8 _ _ PQ;refine⟨y,C,dx,Mv t lo dp dn ds,rfl,gy8,Z.cl,Z.n6,(show 5<1000 by decide),?_⟩
  have dty:dt≠y:=fun z=>by rw[z,PQ] at Xj; cases Xj
  obtain⟨r8',k8⟩:=stp (fs':=QW t lo dp dn ds dt) gy8 (r7'.trans (s8.fr _));rw[pf6];have Yb:∀b o,b≠y->K7 b=some o->upd H8 y (.ins C dx (QW t lo dp dn ds dt)) b=some o:=fun b o e z=>by rw[aN e]; exact s8 _ _ z
  have z8':=aj.kp k8 _ _ (dU _) (z7'.mono s8);have a58:=aj.kp k8 _ _ (fB _) (a57.mono s8);have a88:=aj.kp k8 _ _ (iQ _) a8;have Xc:upd H8 y (.ins C dx (QW t lo dp dn ds dt)) dt=some (.dK (zK (ts.map (·.1)) v8)):=by rw[aN dty]; exact edt
  have Tf:upd H8 y (.ins C dx (QW t lo dp dn ds dt)) y=some (.ins C dx (QW t lo dp dn ds dt)):=aC
  have fH8:∀b,upd H8 y (.ins C dx (QW t lo dp dn ds dt)) b=none->K7 b=none:=fun b z=>by
   cases q':K7 b with
   | none=>rfl
   | some o=>
    by_cases e:b=y
    ·rw[e,Tf] at z; cases z
    ·rw[Yb _ _ e q'] at z; cases z
  generalize upd H8 y (.ins C dx (QW t lo dp dn ds dt))=K8 at r8' k8 z8' a58 a88 Xc Tf fH8 Yb ⊢;refine⟨by decide,fun lp H9 U9 s9 elp=>?_⟩
  have gy9:=s9 _ _ Tf;refine⟨y,C,dx,QW t lo dp dn ds dt,rfl,gy9,Z.cl,Z.n7,(show 6<1000 by decide),?_⟩
  have lpy:lp≠y:=fun z=>by rw[z,Tf] at U9; cases U9
  obtain⟨r9',k9⟩:=stp (fs':=fl7 t lo dp dn ds dt lp) gy9 (r8'.trans (s9.fr _));rw[pf7];have ho9:∀b o,b≠y->K8 b=some o->upd H9 y (.ins C dx (fl7 t lo dp dn ds dt lp)) b=some o:=fun b o e z=>by rw[aN e]; exact s9 _ _ z
  have ac9:upd H9 y (.ins C dx (fl7 t lo dp dn ds dt lp)) lp=some (.lst []):=by rw[aN lpy]; exact elp
  have lo8:=Yb _ _ JD (Td _ _ JD (ho6 _ _ JD Ht));have dp8:=Yb _ _ Tt (Td _ _ Tt (ho6 _ _ Tt PB));have dn8:=Yb _ _ Yi (Td _ _ Yi Te);have ds8:=Yb _ _ dsy Xd;refine q ⟨y,lo,dp,dn,ds,dt,lp,[]⟩ _ rfl ⟨⟨dx,aC⟩,ho9 _ _ JD lo8,⟨v5,ho9 _ _ Tt dp8,aj.kp k9 _ _ (fB _) (a58.mono s9)⟩,ho9 _ _ Yi dn8,⟨zs,ho9 _ _ dsy ds8,aj.kp k9 _ _ (dU _) (z8'.mono s9)⟩,⟨v8,ho9 _ _ dty Xc,aj.kp k9 _ _ (iQ _) (a88.mono s9)⟩,ac9,trivial,?_⟩ rfl ?_ r9'
  ·have ne:∀{G:Hp} {u v:Addr} {o:HO},G u=some o->G v=none->u≠v:=fun e1 e2 z=>by rw[z,e2] at e1; cases e1
   show[y,lo,dp,dn,ds,dt,lp].Nodup;have lo7:=Td _ _ JD (ho6 _ _ JD Ht);have dp7:=Td _ _ Tt (ho6 _ _ Tt PB);have dn7:=Td _ _ Yi Te;simp only[jm,bI,dD,not_or,or_false,not_false_eq_true,List.nodup_nil,and_true];exact⟨⟨JD.symm,Tt.symm,Yi.symm,dsy.symm,dty.symm,lpy.symm⟩,⟨ne Xb fdp,ne Ht fdn,ne (ho6 _ _ JD Ht) fds,ne lo7 Xj,ne lo8 U9⟩,⟨ne PB fdn,ne (ho6 _ _ Tt PB) fds,ne dp7 Xj,ne dp8 U9⟩,⟨ne Te fds,ne dn7 Xj,ne dn8 U9⟩,⟨ne Xd Xj,ne ds8 U9⟩,ne Xc U9⟩
  ·intro b hb
   replace hb:b∈[y,lo,dp,dn,ds,dt,lp]:=hb
   simp only[bI,dD,or_false] at hb;rcases hb with rfl | rfl | rfl | rfl | rfl | rfl | rfl
   ·exact .inl rfl
   ·exact .inr adh
   ·exact .inr (Yg _ fdp)
   ·exact .inr (Yg _ (fH5 _ fdn))
   ·exact .inr (Yg _ (fH5 _ (fH6 _ fds)))
   ·exact .inr (Yg _ (fH5 _ (fH6 _ (fH7 _ Xj))))
   ·exact .inr (Yg _ (fH5 _ (fH6 _ (fH7 _ (fH8 _ U9)))))
 ·intro N hN;walk_at "rd";rcases hsv with⟨rfl,rfl⟩ | ⟨l,zs,rfl,hl,az⟩
  ·refine⟨trivial,?_⟩;rw[bu (by decide)]
   have TB:=TA.mono s1.kp;refine oM ((ts.map fun x=>j7 x.2.1).map qL) (rW ts lD) (jb ts lD) (fun R hR=>by walk_at "rd"; exact hR) (s1 _ _ hp) (by simp; omega) (by omega) (dU _) ?_ ?_
   ·intro i x d H' hx hd s';have TC:=TB.mono s'.kp;refine⟨fun R hR=>wz TC hx hR,fun R hR=>?_⟩;have hi:i<ts.length:=by rw[<- hlen]; exact(iT.mp hx).1
    have et:ts[i]?=some ts[i]:=dN hi;obtain⟨vp,ev,av⟩:=TC.ap.nth (d:=dz ts[i].2.1) (by rw[cJ,cJ,et]; rfl)
    rw[cJ,cJ,et] at hd;cases hd;rw[iR et];walk_at "rd";rw[lC,ev];exact⟨vp,_,rfl,av,fun u dC s'' au=>hR _ _ s'' au⟩
   ·intro l zs H2 f2 s2 e2 a2;exact hN _ _ ⟨l,zs,rfl,e2,a2,s1.trans s2⟩
  ·refine⟨trivial,?_⟩;rw[aZ (by simp)]
   exact hN _ _ ⟨l,zs,rfl,s1 _ _ hl,az.mono s1,s1⟩
theorem adY {x:Option V} {σ:St}:b7 [0] (x::σ)=[x]:=rfl
theorem Ff {H:Hp}:∀{bs:List Bool} {us:List V},aj H (bs.map .bool) us->us=bs.map V.bl
 | [],_,h=>aj.gk h
 | b::bs,us,h=>by
  obtain⟨x,r,rfl,h1,h2⟩:=aj.aR h;have e:x=.bl b:=by unfold At at h1; exact h1
  rw[e,Ff h2]; rfl
def tY (C:Addr):Sp:=fun vs H Q _=>∃(a:Ya) (y:Yd) (l:Addr) (ns:List Str),vs=[.ref a.p,.ref l]/\bD C H a y/\H l=some (.lst (ns.map V.str))/\ns.Nodup/\ns.length<=1000/\(∀n∈ns,n∈y.ns)/\∀H',aP H H'->Q .non H'
theorem iz:aV ["self","names"] ["self","names"] (aF fO):=(by walk_at "c")
theorem nF {C:Addr} (F:iK K "check_names" "Yard.check_names" fO f fd) (B:Bi mg) (Z:ZY K C):bJ P w K mg base gf (k+1) f fd ["self","names"] (tY C):=by
 refine F.ok iz (by rintro vs H Q E ⟨a,y,l,ns,rfl,_⟩; rfl) (fun cdv A outer s H vs Q E hr h=>?_)
 obtain⟨a,y,l,ns,rfl,YA,hl,nn,ae0,nin,q⟩:=h;have ND:=iz.nd;refine⟨_,(aH (cP (PW.pt (ug (bz wA (pb zQ B.len d9 (ao (pt (zP rfl) B.set Qv (ao (pv 1) ak)) ak)) (pb (cH (K:=K) rfl) B.len d9 (ao (pv 1) ak)) (bw _)) (nA (nC (fQ (pb (lq rfl) B.all xr (ao (cV (N':=["name","self"]) (js:=[0]) rfl (bH (K:=K) rfl (pv 1)) qC.mk1 rfl (by decide) rfl (fun fp s' H'=>(eQ (Wj (K:=K) rfl) (pv 0) (bQ (K:=K) rfl (pv 1)) (by with_unfolding_all rfl)))) ak))))))) (aH wg) bM)),?_⟩
 walk_at "rd";refine⟨l,ns,rfl,hl,by omega,fun pz H2 f2 s2 e2=>⟨pz,_,rfl,e2,?_,l,_,rfl,.inl (cg.of (s2 _ _ hl)),?_⟩⟩
 ·have:=(oJ ns).1;omega
 have hdc:=oJ ns;refine⟨_,_,rfl,rfl,?_⟩
 rw[aZ (by
  intro z;have z':=tG z;rw[bZ] at z'
  exact hdc.2.mp (by omega) nn)]
 refine il ((ns.map fun _=>true).map .bool) (fun R hR=>by walk_at "rd"; exact hR) (s2 _ _ hl) (by simp) (by simp; omega) (bf.mpr fun d hd=>by obtain⟨z,_,rfl⟩:=du.mp hd; rfl) (fun i x d H' hx hd s' R hR=>?_) fun ab ub H3 f3 s3 e3 a3=>?_
 ·rw[cJ] at hx;rw[cJ,cJ] at hd;cases et:ns[i]? with
  | none=>rw[et] at hx; cases hx
  | some n=>
   rw[et] at hx hd;cases hx;cases hd;rw[adY];walk_at "rd";refine Fl.order (Q:=fun v H=>ZK K false (.str n) v H R) Z (YA.mono (s2.trans s')) ?_;refine⟨a.lo,_,rfl,.inl (cg.of (YA.mono (s2.trans s')).lo),rfl,zE _,?_⟩;rw[aZ (by decide),JR,oW (nin n (dM et))]
   exact hR _ _ (aP.refl _) (At.bool _)
 ·have eb:ub=(ns.map fun _=>true).map V.bl:=Ff a3;subst eb;refine⟨ab,_,rfl,e3,?_⟩;rw[aZ (by simp)]
  exact q _ (s2.trans s3)
def VJ (C:Addr):Sp:=fun vs H Q _=>∃(a:Ya) (y:Yd),vs=[.ref a.p]/\bD C H a y/\cW y/\∀H',aP H H'->Q (.int (hands y.ss)) H'
theorem m6:aV ["self"] ["self"] (aF jY):=(by walk_at "c")
theorem wH {C:Addr} (F:iK K "hands" "Yard.hands" jY f fd) (B:Bi mg) (Z:ZY K C) (dh:Ct P w K mg base k "hands_of" ["stand"] uN):bJ P w K mg base gf (k+1) f fd ["self"] (VJ C):=by
 refine F.ok m6 (by rintro vs H Q E ⟨a,y,rfl,_⟩; rfl) (fun cdv A outer s H vs Q E hr h=>?_)
 obtain⟨a,y,rfl,YA,YO,q⟩:=h;have ND:=m6.nd;refine⟨_,(aH (a_ (pb (gb rfl) B.sum nW (ao (R3 (cV (N':=["stand"]) (js:=[]) rfl (RX (K:=K) rfl (bQ (K:=K) rfl (pv 0))) qC.U3 rfl (by decide) rfl (fun fp s' H'=>(pf dh hr (ao (pv 0) ak))))) ak)))),?_⟩
 obtain⟨vs,ed,av⟩:=YA.ds;have lv:=av.length;rw[bZ] at lv;have l1:=YO.ls;have l5:=YO.n5;have lz:(zK y.ns vs).length=y.ns.length:=FJ (by omega)
 walk_at "rd";refine Tu (y.ss.map hnd) (fun R hR=>by walk_at "rd"; exact Fl.stands Z YA hR) ed (by rw[bZ,lz]; omega) (by omega) (fun i kk x m H' hx hm kp R hR=>?_) fun acc H' f' s' e'=>?_
 ·unfold zK at hx;rw[Dr] at hx;obtain⟨d',hd',ad⟩:=av.get hx.2;rw[cJ] at hd' hm;cases ex:y.ss[i]? with
  | none=>rw[ex] at hd'; cases hd'
  | some x'=>
   rw[ex] at hd' hm;cases hm;cases hd';obtain⟨a0,xs0,rfl,h1,h2⟩:=bj (At.kp kp _ _ (qK _) ad);obtain⟨x0,_,rfl,b0,h2⟩:=aj.aR h2;obtain⟨x1,_,rfl,b1,h2⟩:=aj.aR h2;obtain⟨x2,_,rfl,b2,h2⟩:=aj.aR h2;obtain⟨c0,cs0,rfl,g1,g2⟩:=bj b2;have:=cO (cs:=x'.cs) g2;subst this;have e1:x1=.int x'.r:=by unfold At at b1; exact b1
   subst e1;walk_at "rd";exact⟨_,_,_,_,_,_,_,rfl,rfl,h1,g1,hR _ (aP.refl _)⟩
 ·refine⟨acc,_,rfl,.inl e',?_⟩;exact q _ s'
def mU (C:Addr) (g:Yd->List PyData):Sp:=fun vs H Q _=>∃(a:Ya) (y:Yd) (i:Nat) (n:Str) (d:PyData),vs=[.ref a.p,.str n]/\bD C H a y/\cW y/\y.ns[i]?=some n/\(g y)[i]?=some d/\∀v H',aP H H'->At H' d v->Q v H'
def gS (y:Yd):List PyData:=y.ss.map qL
def gP (y:Yd):List PyData:=y.ps.map dz
def gO (y:Yd):List PyData:=y.os.map Ec
def gT (y:Yd):List PyData:=y.ts.map gm
theorem mZ:aV ["self","name"] ["self","name"] (aF jX):=(by walk_at "c")
theorem wG {C:Addr} (F:iK K "stand" "Yard.stand" jX f fd) (Z:ZY K C) (aO:rT P w K mg base k C "check_names" ["self","names"] (tY C)):bJ P w K mg base gf (k+1) f fd ["self","name"] (mU C gS):=by
 refine F.ok mZ (by rintro vs H Q E ⟨a,y,i,n,d,rfl,_⟩; rfl) (fun cdv A outer s H vs Q E hr h=>?_)
 obtain⟨a,y,i,n,d,rfl,YA,YO,hn,hd,q⟩:=h;have ND:=mZ.nd;refine⟨_,(aq (bO (pm aO hr (pv 0) (ao (bG (ao (pv 1) ak)) ak))) (aH (a_ (bB (pM hr.units) (bQ (K:=K) rfl (pv 0)) (pv 1) (fun _ _=>rfl))))),?_⟩;walk_at "rd";refine Me.of (m:="check_names") (R:=fun p=>_) YA (fun _ _ _ _ _ _ _=>rfl) ?_;refine⟨by decide,fun p H1 f1 s1 e1=>?_⟩
 refine⟨a,y,p,[n],rfl,YA.mono s1,e1,by simp,by simp,by intro m hm; rw[gJ.mp hm]; exact dM hn,fun H2 s2=>?_⟩
 have YB:=YA.mono (s1.trans s2);obtain⟨us,ed,av⟩:=YB.ds;obtain⟨v,ev,aw⟩:=av.nth hd;have lv:=av.length;have l1:=YO.ls;rw[bZ] at lv;obtain⟨dx,ob⟩:=YB.ob;exact⟨_,_,_,_,_,rfl,ob,Z.cl,Z.n5,oH ..,_,v,rfl,lB.z ed YO.nn hn (by omega) ev,q _ _ (s1.trans s2) aw⟩
theorem pJ:aV ["self","name"] ["self","name"] (aF lG):=(by walk_at "c")
theorem xM {C:Addr} (F:iK K "post" "Yard.post" lG f fd) (Z:ZY K C) (aO:rT P w K mg base k C "check_names" ["self","names"] (tY C)):bJ P w K mg base gf (k+1) f fd ["self","name"] (mU C gP):=by
 refine F.ok pJ (by rintro vs H Q E ⟨a,y,i,n,d,rfl,_⟩; rfl) (fun cdv A outer s H vs Q E hr h=>?_)
 obtain⟨a,y,i,n,d,rfl,YA,YO,hn,hd,q⟩:=h;have ND:=pJ.nd;refine⟨_,(aq (bO (pm aO hr (pv 0) (ao (bG (ao (pv 1) ak)) ak))) (aH (a_ (bB (pM hr.units) (bQ (K:=K) rfl (pv 0)) (pv 1) (fun _ _=>rfl))))),?_⟩;walk_at "rd";refine Me.of (m:="check_names") (R:=fun p=>_) YA (fun _ _ _ _ _ _ _=>rfl) ?_;refine⟨by decide,fun p H1 f1 s1 e1=>?_⟩
 refine⟨a,y,p,[n],rfl,YA.mono s1,e1,by simp,by simp,by intro m hm; rw[gJ.mp hm]; exact dM hn,fun H2 s2=>?_⟩
 have YB:=YA.mono (s1.trans s2);obtain⟨us,ed,av⟩:=YB.dp;obtain⟨v,ev,aw⟩:=av.nth hd;have lv:=av.length;have l1:=YO.lp;rw[bZ] at lv;obtain⟨dx,ob⟩:=YB.ob;exact⟨_,_,_,_,_,rfl,ob,Z.cl,Z.n3,rE ..,_,v,rfl,lB.z ed YO.nn hn (by omega) ev,q _ _ (s1.trans s2) aw⟩
theorem lX:aV ["self","name"] ["self","name"] (aF ji):=(by walk_at "c")
theorem uE {C:Addr} (F:iK K "onward" "Yard.onward" ji f fd) (Z:ZY K C) (aO:rT P w K mg base k C "check_names" ["self","names"] (tY C)):bJ P w K mg base gf (k+1) f fd ["self","name"] (mU C gO):=by
 refine F.ok lX (by rintro vs H Q E ⟨a,y,i,n,d,rfl,_⟩; rfl) (fun cdv A outer s H vs Q E hr h=>?_)
 obtain⟨a,y,i,n,d,rfl,YA,YO,hn,hd,q⟩:=h;have ND:=lX.nd;refine⟨_,(aq (bO (pm aO hr (pv 0) (ao (bG (ao (pv 1) ak)) ak))) (aH (a_ (bB (pM hr.units) (bQ (K:=K) rfl (pv 0)) (pv 1) (fun _ _=>rfl))))),?_⟩;walk_at "rd";refine Me.of (m:="check_names") (R:=fun p=>_) YA (fun _ _ _ _ _ _ _=>rfl) ?_;refine⟨by decide,fun p H1 f1 s1 e1=>?_⟩
 refine⟨a,y,p,[n],rfl,YA.mono s1,e1,by simp,by simp,by intro m hm; rw[gJ.mp hm]; exact dM hn,fun H2 s2=>?_⟩
 have YB:=YA.mono (s1.trans s2);have l1:=YO.lo
 replace hd:(y.os.map Ec)[i]?=some d:=hd
 rw[cJ] at hd;cases eo:y.os[i]? with
 | none=>rw[eo] at hd; cases hd
 | some o=>
 rw[eo] at hd;cases hd;obtain⟨dx,ob⟩:=YB.ob;exact⟨_,_,_,_,_,rfl,ob,Z.cl,Z.n4,ql ..,_,j_ o,rfl,lB.z YB.dn YO.nn hn (by rw[bZ]; omega) (by rw[cJ,eo]; rfl),q _ _ (s1.trans s2) (O8 _)⟩
def Us (C:Addr):Sp:=fun vs H Q _=>∃(a:Ya) (y:Yd),vs=[.ref a.p]/\bD C H a y/\cW y/\Q (.int (y.pa.length:Nat)) H
theorem m7:aV ["self"] ["self"] (aF jZ):=(by walk_at "c")
theorem wI {C:Addr} (F:iK K "beats" "Yard.beats" jZ f fd) (B:Bi mg) (Z:ZY K C):bJ P w K mg base gf (k+1) f fd ["self"] (Us C):=by
 refine F.ok m7 (by rintro vs H Q E ⟨a,y,rfl,_⟩; rfl) (fun cdv A outer s H vs Q E hr h=>?_)
 obtain⟨a,y,rfl,YA,YO,q⟩:=h;have ND:=m7.nd;refine⟨_,(aH (a_ (pb (cH (K:=K) rfl) B.len d9 (ao (bQ (K:=K) rfl (pv 0)) ak)))),?_⟩;walk_at "rd";obtain⟨dx,ob⟩:=YA.ob;refine⟨_,_,_,_,_,rfl,ob,Z.cl,Z.n7,BJ ..,?_⟩;refine⟨_,_,rfl,.inl (cg.of YA.lp),?_⟩;rw[bZ,YA.pa.length];exact q
def eX (y:Yd):List T3:=y.ns.zip (y.ps.zip y.os)
theorem kI {y:Yd} (YO:cW y):(eX y).length=y.ns.length:=by
 have:=YO.lp;have:=YO.lo;unfold eX; rw[vY,vY]; omega
theorem bR.nth {H:Hp}:∀{ls:List Addr} {rs:List (List Rw)} {i:Nat} {l:Addr},bR H ls rs->ls[i]?=some l->∃r xs,rs[i]?=some r/\H l=some (.lst xs)/\aj H (r.map Jg) xs
 | [],[],i,l,_,h=>by simp at h
 | l::ls,r::rs,0,_,h,e=>by cases e; obtain⟨⟨xs,e,a⟩,_⟩:=h; exact⟨r,xs,rfl,e,a⟩
 | l::ls,r::rs,i+1,_,h,e=>bR.nth (i:=i) h.2 e
 | [],_::_,_,_,h,_=>h.elim
 | _::_,[],_,_,h,_=>h.elim
theorem Eu {js:List Nat} {a:Addr} {ls:List Addr} {rs:List (List Rw)} {tl te:TE} {σ:St} {H:Hp} {Q:VK} (hl:∀R:VK,R (.ref a) H->tl σ H R) (ha:H a=some (.lst (ls.map V.ref))) (hz:ls.length<=1000) (hp:bR H ls rs)
  (step:∀(l:Addr) xs H',H' l=some (.lst xs)->∀R:VK,(∀p,H' p=none->R (.ref p) (upd H' p (.lst xs)))->te (some (.ref l)::b7 js σ) H' R)
  (fin:∀acc ms H',H acc=none->(∀b∈ms,H b=none)->(acc::ms).Nodup->aP H H'->H' acc=some (.lst (ms.map V.ref))->bR H' ms rs->Q (.ref acc) H'):gQ js (kJ K tl) te σ H Q:=by
 refine hl _ ⟨a,rfl,⟨_,cg.of ha⟩,fun acc hacc=>?_⟩;have lr:=hp.length;refine⟨fun i m ys H2=>m=ls.length-i/\i<=ls.length/\∃ms,ys=ms.map V.ref/\ms.length=i/\bR H2 ms (rs.take i)/\(∀b∈ms,H b=none)/\(acc::ms).Nodup/\aP H H2/\H2 acc=some (.lst ys),⟨_,rfl,gw _,[],rfl,rfl,trivial,fun b hb=>by simp at hb,by simp,aQ hacc _,aC⟩,?_⟩
 rintro i m ys H2 ⟨rfl,hi,ms,rfl,lm,pm,fm,nm,s2,e2⟩;have ht:cg K H2 a (ls.map V.ref):=cg.of (s2 _ _ ha);by_cases hlt:i<ls.length
 ·have el:ls[i]?=some ls[i]:=dN hlt;have elr:(ls.map V.ref)[i]?=some (.ref ls[i]):=by rw[cJ,el]; rfl
  refine .inr ⟨⟨_,_,ht,elr⟩,fun x H3 y=>?_⟩;obtain⟨e1,y⟩:=y;subst e1;have ex:=(y _ ht).symm.trans elr;cases ex;obtain⟨r,xs,er,exs,ax⟩:=hp.nth el;refine step _ xs _ (s2 _ _ exs) _ fun p fp=>?_;have pa:p≠acc:=fun z=>by rw[z,e2] at fp; cases fp
  have fp0:H p=none:=by
   cases q':H p with
   | none=>rfl
   | some o=>rw[s2 _ _ q'] at fp; cases fp
  have pm':p∉ms:=fun z=>by
   obtain⟨xs',e'⟩:=pm.all p z;rw[e'] at fp; cases fp
  have sp:=aQ fp (HO.lst xs);have k4:dI H3 (upd (upd H3 p (.lst xs)) acc (.lst (ms.map V.ref++[.ref p]))):=sp.kp.trans (dI.putL (sp _ _ e2));refine⟨sp _ _ e2,aY (by rw[bZ]; omega),ls.length-(i+1),by omega,rfl,hlt,ms++[p],by rw[gY]; rfl,by rw[cN,lm]; rfl,?_,?_,?_,?_,aC⟩
  ·rw[cD er];refine bR.snoc (xs:=xs) (pm.keep k4 fun b hb o e=>?_) (by rw[aN pa,aC]) (aj.kp (s2.kp.trans k4) _ _ (jL r) ax)
   rw[aN (fun z=>by rw[z] at hb; exact(jm.mp nm).1 hb)]
   exact sp _ _ e
  ·intro b hb;rcases fZ.mp hb with h | h
   ·exact fm b h
   ·rw[gJ.mp h]; exact fp0
  ·have:=jm.mp nm;rw[jm,pZ];refine⟨fun z=>?_,this.2,by simp,fun u hu v hv e=>?_⟩
   ·rcases fZ.mp z with h | h
    ·exact this.1 h
    ·exact pa (gJ.mp h).symm
   ·rw[gJ.mp hv] at e; rw[e] at hu; exact pm' hu
  ·intro b o z;rw[aN (fun e=>by rw[e,hacc] at z; cases z)]
   exact sp _ _ (s2 _ _ z)
 ·have e:i=ls.length:=by omega
  subst e;rw[lr,pY] at pm;exact .inl ⟨⟨_,ht,by rw[bZ]; exact bL _⟩,fin acc ms H2 hacc fm nm s2 e2 pm⟩
def Up (C:Addr):Sp:=fun vs H Q _=>∃(a:Ya) (y:Yd),vs=[.ref a.p]/\bD C H a y/\cW y/\∀p ms H',H p=none->(∀b∈ms,H b=none)->(p::ms).Nodup->aP H H'->H' p=some (.lst (ms.map V.ref))->bR H' ms y.pa->Q (.ref p) H'
theorem pI:aV ["self"] ["self"] (aF lF):=(by walk_at "c")
theorem xK {C:Addr} (F:iK K "told" "Yard.told" lF f fd) (B:Bi mg) (Z:ZY K C):bJ P w K mg base gf (k+1) f fd ["self"] (Up C):=by
 refine F.ok pI (by rintro vs H Q E ⟨a,y,rfl,_⟩; rfl) (fun cdv A outer s H vs Q E hr h=>?_)
 obtain⟨a,y,rfl,YA,YO,q⟩:=h;have ND:=pI.nd;refine⟨_,(aH (a_ (cV (N':=["rows"]) (js:=[]) rfl (bH (K:=K) rfl (bQ (K:=K) rfl (pv 0))) qC.U3 rfl (by decide) rfl (fun fp s' H'=>(pt (oN) B.list jQ (ao (pv 0) ak)))))),?_⟩
 walk_at "rd";have l1:=YA.pa.length;have l2:=YO.pn;obtain⟨dx,ob⟩:=YA.ob;refine Eu (fun R hR=>by walk_at "rd"; exact⟨_,_,_,_,_,rfl,ob,Z.cl,Z.n7,BJ ..,hR⟩) YA.lp (by omega) YA.pa (fun l xs H' hx R hR=>?_) fun acc ms H' f1 f2 f3 s' e' a'=>?_
 ·walk_at "rd";exact⟨_,_,rfl,hx,hR⟩
 ·exact q _ _ _ f1 f2 f3 s' e' a'
theorem wU:∀(cs:List Int) (g:Int),(bF cs g).1.sum=cs.sum-g+(bF cs g).2
 | [],g=>by simp[bF]; omega
 | c::cs,g=>by
  have:=wU cs g;rw[bF,vV,vV,this];simp only;generalize (if(bF cs g).2<c then(bF cs g).2 else c)=z
  omega
theorem zq:∀(cs:List Int) (g:Int),(∀c∈cs,0<=c)->0<=g->(∀c∈(bF cs g).1,0<=c)/\0<=(bF cs g).2/\((bF cs g).2=0\/(bF cs g).1.sum=0)
 | [],g,_,hg=>⟨by simp[bF],by simpa[bF] using hg,.inr (by simp[bF])⟩
 | c::cs,g,h,hg=>by
  obtain⟨h1,h2,h3⟩:=zq cs g (fun y hy=>h y (g8 _ hy)) hg;have hc:=h c iV;rw[bF];simp only;generalize hG:(bF cs g).2=G at *;refine⟨fun y hy=>?_,?_,?_⟩
  ·rcases bI.mp hy with z | z
   ·rw[z]; split <;> omega
   ·exact h1 y z
  ·split <;> omega
  ·rw[vV];split <;> omega
structure Wth (x:gM) (st n:jD) (ch:Int):Prop where
 w:n.w=st.w
 s:n.s=st.s
 u:n.us=st.us
 r:0<=n.r
 c:n.cs.length=5
 cn:∀y∈n.cs,0<=y
 sm:n.r+n.cs.sum=st.r+st.cs.sum+ch
 t:n.t=if ch=0 then st.t else if 0<ch then x.u else x.d
theorem FP {x:gM} {st:jD} {ch:Int} (ha:x.a<=4) (hr:0<=st.r) (hl:st.cs.length=5) (hc:∀y∈st.cs,0<=y) (hz:0<=st.r+st.cs.sum+ch):Wth x st (iM x st ch) ch:=by
 by_cases c1:ch=0
 ·subst c1;have e:iM x st 0=st:=rfl;rw[e];exact⟨rfl,rfl,rfl,hr,hl,hc,by omega,rfl⟩
 ·by_cases c2:0<ch
  ·have e:iM x st ch={ st with cs:=st.cs.take x.a++[st.cs.getD x.a 0+ch]++st.cs.drop (x.a+1),t:=x.u }:=by unfold iM; rw[aZ c1,bu c2]
   rw[e];refine⟨rfl,rfl,rfl,hr,?_,?_,?_,?_⟩
   ·simp only[cN,mD,sY,gZ,vX];omega
   ·intro y hy;rcases fZ.mp hy with z | z
    ·rcases fZ.mp z with z | z
     ·exact hc y (vZ z)
     ·rw[gJ.mp z];have hlt:x.a<st.cs.length:=by omega
      have:0<=st.cs.getD x.a 0:=by
       rw[lC,dN hlt];exact hc _ (nu hlt)
      omega
    ·exact hc y (GJ z)
   ·show st.r+(st.cs.take x.a++[st.cs.getD x.a 0+ch]++st.cs.drop (x.a+1)).sum=_;obtain⟨y0,y1,y2,y3,y4,ey⟩:=Wz hl;rw[ey];have:x.a=0\/x.a=1\/x.a=2\/x.a=3\/x.a=4:=by omega
    rcases this with e | e | e | e | e <;> rw[e] <;> simp <;> omega
   ·show x.u=_;rw[aZ c1,bu c2]
  ·have e:iM x st ch={ st with r:=st.r-(bF st.cs (-ch)).2,cs:=(bF st.cs (-ch)).1,t:=x.d }:=by unfold iM; rw[aZ c1,aZ c2]
   rw[e];obtain⟨k1,k2,k3⟩:=zq st.cs (-ch) hc (by omega)
   have k4:=wU st.cs (-ch);have k5:=Ga _ k1;refine⟨rfl,rfl,rfl,?_,?_,k1,?_,?_⟩
   ·show 0<=st.r-(bF st.cs (-ch)).2;omega
   ·show(bF st.cs (-ch)).1.length=5;rw[qi]; exact hl
   ·show st.r-(bF st.cs (-ch)).2+(bF st.cs (-ch)).1.sum=_;omega
   ·show x.d=_;rw[aZ c1,aZ c2]
theorem nQ {st:jD} (h:st.cs.length=5):j0 st+(st.cs.drop 1++[0]).sum=st.r+st.cs.sum:=by
 obtain⟨a,b,c,d,e,hc⟩:=Wz h;unfold j0;rw[hc];simp;omega
theorem Oe {st:jD} (h:st.cs.length=5) (hr:0<=st.r) (hc:∀y∈st.cs,0<=y):0<=j0 st:=by
 obtain⟨a,b,c,d,e,ec⟩:=Wz h;have:=hc a (by rw[ec]; exact iV)
 unfold j0; rw[ec]; show 0<=st.r+a; omega
theorem Pg {st:jD} (hc:∀y∈st.cs,0<=y):∀y∈st.cs.drop 1++[0],0<=y:=fun y hy=>by
 rcases fZ.mp hy with z | z
 ·exact hc y (GJ z)
 ·rw[gJ.mp z]; exact Int.le_refl 0
structure NxN (x:gM) (st:jD) (c fr:Int):Prop where
 s:Mt (iM x (j6 x st c) (x_ x st c fr))
 h:hnd (iM x (j6 x st c) (x_ x st c fr))=hnd st+x_ x st c fr
 l:x_ x st c fr<=fr\/x_ x st c fr<=0
theorem Wr {x:gM} {st:jD} {c fr:Int} (hx:Cq x) (hs:Mt st) (hfr:0<=fr):NxN x st c fr:=by
 have hc5:=hs.c;have h0:=Ga _ hs.cn;have h1:=hs.r;have hlo:=hx.lo;have hhi:=hx.hi
 have hwb:0<=yD x.jl x.lo x.hi (st.r+st.cs.sum) (ig x st c):=by
  unfold yD;simp only
  repeat' split <;> try omega
 have hbd:0<=st.r+st.cs.sum+x_ x st c fr/\(x_ x st c fr<=fr\/x_ x st c fr<=0):=by
  unfold x_;rw[nQ hc5];split
  ·unfold BV;split <;> omega
  ·omega
 have hml:(st.cs.drop 1++[0]).length=5:=by simp[hc5]
 have hW:=FP (x:=x) (st:=j6 x st c) (ch:=x_ x st c fr) hx.a (Oe hc5 hs.r hs.cn) hml (Pg hs.cn) (by show 0<=j0 st+(st.cs.drop 1++[0]).sum+x_ x st c fr; rw[nQ hc5]; exact hbd.1)
 have hi:=Rc (ch:=x_ x st c fr) hx.is (El (x:=x) (come:=c) hs.is);refine⟨⟨hW.r,hi.c,hW.cn,hi.u,hi.l⟩,?_,hbd.2⟩;have:=hW.sm;have e:(j6 x st c).r+(j6 x st c).cs.sum=st.r+st.cs.sum:=nQ hc5;rw[e] at this;exact this
def x0:gM:=⟨1,0,0,0,0,1,0,0,[]⟩
def s0:jD:=⟨0,0,[],0,0,[]⟩
def rC (y:Yd):Int:=if 12<y.tot-hands y.ss then 12 else y.tot-hands y.ss
def Aw (y:Yd) (i:Nat):gM:=y.ps.getD i x0
def Ax (y:Yd) (i:Nat):jD:=y.ss.getD i s0
def pbN (y:Yd) (i:Nat) (c:Int):jD:=iM (Aw y i) (j6 (Aw y i) (Ax y i) c) (x_ (Aw y i) (Ax y i) c (rC y))
def KZ (y:Yd) (i:Nat):List Int:=y.ts.getD i []
def Ft (y:Yd) (i:Nat) (c:Int):Rw:=⟨y.ns.getD i "",c,mz (Aw y i) (Ax y i) c,c-jc (Aw y i) (Ax y i) c,x_ (Aw y i) (Ax y i) c (rC y)⟩
def QB (t:List Int) (c d a:Int):List Int:=[t.getD 0 0+c,t.getD 1 0+d,t.getD 2 0+a]
def QS (y:Yd) (i:Nat) (c:Int):Yd:={ y with ss:=y.ss.set i (pbN y i c),ts:=y.ts.set i (QB (KZ y i) c (Ft y i c).d (Ft y i c).a) }
theorem Ly {ss:List jD} {i:Nat} {s n:jD} (h:ss[i]?=some s):hands (ss.set i n)=hands ss-hnd s+hnd n:=by
 induction ss generalizing i with
 | nil=>simp at h
 | cons z zs ih=>
  cases i with
  | zero=>cases h; simp only[Jl,hands,iB,vV]; omega
  | succ i=>
   have:=ih (i:=i) h;simp only[DW,hands,iB,vV] at this ⊢;omega
theorem Tj {y:Yd} (YO:cW y):0<=rC y:=by
 have:=YO.hs;unfold rC;split <;> omega
theorem Wh {y:Yd} {i:Nat} {c:Int} (YO:cW y) (hi:i<y.ns.length):cW (QS y i c):=by
 have l1:=YO.lp;have l2:=YO.ls;have l3:=YO.lt;have es:y.ss[i]?=some y.ss[i]:=dN (by omega)
 have e1:Ax y i=y.ss[i]:=by unfold Ax; rw[lC,es]; rfl
 have e2:Aw y i=y.ps[i]:=by unfold Aw; rw[lC,dN (by omega:i<y.ps.length)]; rfl
 have N:=Wr (x:=Aw y i) (st:=Ax y i) (c:=c) (by rw[e2]; exact YO.pg _ (nu _)) (by rw[e1]; exact YO.sg _ (nu _)) (Tj YO)
 refine { YO with ls:=by show(y.ss.set i _).length=_; rw[Gw]; exact l2,lt:=by show(y.ts.set i _).length=_; rw[Gw]; exact l3,sg:=?_,tg:=?_,hs:=?_ }
 ·intro s hs;rcases RN hs with h | h
  ·exact YO.sg s h
  ·rw[h]; exact N.s
 ·intro t ht;rcases RN ht with h | h
  ·exact YO.tg t h
  ·rw[h]; rfl
 ·show hands (y.ss.set i (pbN y i c))<=y.tot;rw[Ly es];have hN:hnd (pbN y i c)=hnd (Ax y i)+x_ (Aw y i) (Ax y i) c (rC y):=N.h;rw[hN,e1];have h1:=N.l;rw[e1] at h1;have h2:=YO.hs;have h3:rC y<=y.tot-hands y.ss:=by unfold rC; split <;> omega
  omega
theorem aj.put {H:Hp} {d:PyData} {v:V} (a:At H d v):∀{ds:List PyData} {vs:List V} {i:Nat},aj H ds vs->aj H (ds.set i d) (vs.set i v)
 | [],vs,i,h=>by cases aj.gk h; exact aj.nil
 | e::ds,vs,i,h=>by
  obtain⟨x,r,rfl,h1,h2⟩:=aj.aR h;cases i with
  | zero=>exact aj.cons a h2
  | succ i=>exact aj.cons h1 (aj.put a h2)
def Zk (C:Addr):Sp:=fun vs H Q _=>∃(a:Ya) (y:Yd) (i:Nat) (n:Str) (c:Int),vs=[.ref a.p,.str n,.int c]/\bD C H a y/\cW y/\y.ns[i]?=some n/\∀v H',bD C H' a (QS y i c)->Fr [a.ds,a.dt] H H'->At H' (Jg (Ft y i c)) v->Q v H'
theorem je:aV ["self","name","come","free","stand","done","away","change","all_come","all_done","all_away"] ["self","name","come"] (aF gq):=(by walk_at "c")
theorem qe {C:Addr} (F:iK K "post_beat" "Yard.post_beat" gq f fd) (B:Bi mg) (O:Co K mg) (Z:ZY K C) (eO:rT P w K mg base k C "hands" ["self"] (VJ C)) (lQ:Q5 P w K mg base k "beat_beats" ["post","stand","come","free"] 12 NZ):bJ P w K mg base gf (k+1) f fd ["self","name","come"] (Zk C):=by
 refine F.ok je (by rintro vs H Q E ⟨a,y,i,n,c,rfl,_⟩; rfl) (fun cdv A outer s H vs Q E hr h=>?_)
 obtain⟨a,y,i,n,c,rfl,YA,YO,hn,q⟩:=h;have ND:=je.nd;refine⟨_,(aq (aX (i:=3) ND rfl (by walk_at "o") (pb (fD rfl) B.min lU (ao (aU jt (bQ (K:=K) rfl (pv 0)) (V9 eO hr (pv 0))) (ao (Ar O.Ii) ak)))) (aq (dX (pfa lQ hr (ao (bB (pM hr.units) (bQ (K:=K) rfl (pv 0)) (pv 1) (fun _ _=>rfl)) (ao (bB (pM hr.units) (bQ (K:=K) rfl (pv 0)) (pv 1) (fun _ _=>rfl)) (ao (pv 2) (ao (pv 3) ak))))) (bU (K:=K) (n:=4) rfl rfl (aK (aJ (i:=4) ND rfl (by walk_at "o")) (aK (aJ (i:=5) ND rfl (by walk_at "o")) (aK (aJ (i:=6) ND rfl (by walk_at "o")) (aK (aJ (i:=7) ND rfl (by walk_at "o")) bT)))))) (aq (dX (pv 4) (p_ (bQ (K:=K) rfl (pv 0)) (pv 1) (vo hr.units))) (aq (dX (bB (pM hr.units) (bQ (K:=K) rfl (pv 0)) (pv 1) (fun _ _=>rfl)) (bU (K:=K) (n:=3) rfl rfl (aK (aJ (i:=8) ND rfl (by walk_at "o")) (aK (aJ (i:=9) ND rfl (by walk_at "o")) (aK (aJ (i:=10) ND rfl (by walk_at "o")) bT))))) (aq (dX (bx (ao (aU bC (pv 8) (pv 2)) (ao (aU bC (pv 9) (pv 5)) (ao (aU bC (pv 10) (pv 6)) ak)))) (p_ (bQ (K:=K) rfl (pv 0)) (pv 1) (vo hr.units))) (aH (a_ (bx (ao (pv 1) (ao (pv 2) (ao (pv 5) (ao (pv 6) (ao (pv 7) ak))))))))))))),?_⟩
 walk_at "rd";obtain⟨dx,ob⟩:=YA.ob;refine⟨_,_,_,_,_,rfl,ob,Z.cl,Z.n1,Er ..,?_⟩;refine Me.of (m:="hands") (R:=fun p=>_) YA (fun _ _ _ _ _ _ _=>rfl) ?_;refine⟨a,y,rfl,YA,YO,fun H1 s1=>?_⟩;have l1:=YO.lp;have l2:=YO.ls;have l3:=YO.lt;have l5:=YO.n5;have hi:i<y.ns.length:=(iT.mp hn).1;have YB:=YA.mono s1;have e1:y.ps[i]?=some (Aw y i):=by unfold Aw; rw[lC,dN (by omega:i<y.ps.length)]; rfl
 have e2:y.ss[i]?=some (Ax y i):=by unfold Ax; rw[lC,dN (by omega:i<y.ss.length)]; rfl
 have e3:y.ts[i]?=some (KZ y i):=by unfold KZ; rw[lC,dN (by omega:i<y.ts.length)]; rfl
 obtain⟨lD,edp,ap⟩:=YB.dp;obtain⟨X4,eds,as⟩:=YB.ds;obtain⟨vp,evp,avp⟩:=ap.nth (i:=i) (d:=dz (Aw y i)) (by rw[cJ,e1]; rfl)
 obtain⟨vs',evs,avs⟩:=as.nth (i:=i) (d:=qL (Ax y i)) (by rw[cJ,e2]; rfl)
 have lp:=ap.length;have ls:=as.length;rw[bZ] at lp ls;have ob1:=s1 _ _ ob;refine⟨_,_,rfl,rfl,?_⟩;refine⟨_,_,_,_,_,rfl,ob1,Z.cl,Z.n3,rE ..,_,vp,rfl,lB.z edp YO.nn hn (by omega) evp,_,_,_,_,_,rfl,ob1,Z.cl,Z.n5,oH ..,_,vs',rfl,lB.z eds YO.nn hn (by omega) evs,?_⟩
 refine⟨vp,vs',Aw y i,Ax y i,c,rC y,rfl,avp,avs,(YO.pg _ (dM e1)).is,(YO.sg _ (dM e2)).is,fun p u' H2 s2 au e4=>?_⟩;refine⟨p,_,rfl,e_.of e4,rfl,?_⟩;walk_at "rd";have ob2:=s2 _ _ ob1;have s12:=s1.trans s2;have nd:=YA.nd
 have nds:a.ds≠a.p/\a.dt≠a.p/\a.dt≠a.ds:=by
  unfold Ya.own at nd;have:=(pZ.mp nd).1;simp only[jm,bI,dD,not_or,or_false] at this;exact⟨Ne.symm this.1.2.2.2.1,Ne.symm this.1.2.2.2.2.1,Ne.symm this.2.2.2.2.1.1⟩
 refine⟨_,_,_,_,_,rfl,ob2,Z.cl,Z.n5,oH ..,_,_,rfl,rP.z (s2 _ _ eds) YO.nn hn (by omega) (by omega),?_⟩
 obtain⟨X3,edt,at'⟩:=YA.dt;have ltt:=at'.length;rw[bZ] at ltt;have k3:dI H2 (upd H2 a.ds (.dK (zK y.ns (X4.set i u')))):=dI.putD (s2 _ _ eds);have f3:Fr [a.ds] H2 (upd H2 a.ds (.dK (zK y.ns (X4.set i u')))):=Fr.put (by simp)
 have aaD:upd H2 a.ds (.dK (zK y.ns (X4.set i u'))) a.ds=some (.dK (zK y.ns (X4.set i u'))):=aC;generalize upd H2 a.ds (.dK (zK y.ns (X4.set i u')))=H3 at k3 f3 aaD ⊢;have ob3:=f3 _ _ ob2 (by simpa using Ne.symm nds.1)
 have Xm:=f3 _ _ (s12 _ _ edt) (by simpa using nds.2.2)
 have at3:=aj.kp (s12.kp.trans k3) _ _ (iQ _) at';obtain⟨vt,evt,avt⟩:=at3.nth (i:=i) (d:=gm (KZ y i)) (by rw[cJ,e3]; rfl)
 obtain⟨t0,t1,t2,et⟩:∃t0 t1 t2,KZ y i=[t0,t1,t2]:=by
  have:=YO.tg _ (dM e3)
  match KZ y i,this with
  | [t0,t1,t2],_=>exact⟨t0,t1,t2,rfl⟩
 rw[et] at avt;obtain⟨b0,xs0,rfl,h1,h2⟩:=bj avt;have:=cO (cs:=[t0,t1,t2]) h2;subst this;refine⟨_,_,_,_,_,rfl,ob3,Z.cl,Z.n6,qj ..,_,_,rfl,lB.z Xm YO.nn hn (by omega) evt,?_⟩
 refine⟨b0,_,rfl,e_.of h1,rfl,?_⟩;walk_at "rd";refine⟨by decide,fun q4 H4 f4 s4 e5=>?_⟩
 have aaC:=s4 _ _ Xm;refine⟨_,_,_,_,_,rfl,s4 _ _ ob3,Z.cl,Z.n6,qj ..,_,_,rfl,rP.z aaC YO.nn hn (by omega) (by omega),by decide,fun p6 H6 f6 s6 e6=>?_⟩
 have k5:dI H4 (upd H4 a.dt (.dK (zK y.ns (X3.set i (.ref q4))))):=dI.putD aaC;have f5:Fr [a.dt] H4 (upd H4 a.dt (.dK (zK y.ns (X3.set i (.ref q4))))):=Fr.put (by simp)
 have aaB:upd H4 a.dt (.dK (zK y.ns (X3.set i (.ref q4)))) a.dt=some (.dK (zK y.ns (X3.set i (.ref q4)))):=aC;generalize upd H4 a.dt (.dK (zK y.ns (X3.set i (.ref q4))))=H5 at k5 f5 aaB f6 s6;have fr:Fr [a.ds,a.dt] H H6:=(s12.fr _).trans ((f3.sub fun b hb=>.inl (by rw[gJ.mp hb]; simp)).trans ((s4.fr _).trans ((f5.sub fun b hb=>.inl (by rw[gJ.mp hb]; simp)).trans (s6.fr _))))
 have X_:dI H2 H6:=k3.trans (s4.kp.trans (k5.trans s6.kp));have kp:dI H H6:=s12.kp.trans X_;unfold Ya.own at nd;obtain⟨Fv,nd2,U0⟩:=pZ.mp nd;simp only[jm,bI,dD,not_or,or_false] at Fv;obtain⟨⟨n12,n13,n14,n15,n16,n17⟩,⟨n23,n24,n25,n26,n27⟩,⟨n34,n35,n36,n37⟩,⟨n45,n46,n47⟩,⟨n56,n57⟩,n67,_⟩:=Fv;have off:∀{b:Addr} {o:HO},H b=some o->b≠a.ds->b≠a.dt->H6 b=some o:=fun {b o} e h1 h2=>fr b o e (by simp[h1,h2])
 have eqr:Ft y i c=⟨n,c,mz (Aw y i) (Ax y i) c,c-jc (Aw y i) (Ax y i) c,x_ (Aw y i) (Ax y i) c (rC y)⟩:=by
  unfold Ft;rw[lC,hn]; rfl
 obtain⟨ab4,adz,ap0⟩:=YA.dp;refine q _ H6 ⟨⟨dx,off ob n15 n16⟩,off YA.lo n25 n26,⟨ab4,off adz n35 n36,aj.kp kp _ _ (fB _) ap0⟩,off YA.dn n45 n46,⟨X4.set i u',?_,?_⟩,⟨X3.set i (.ref q4),s6 _ _ aaB,?_⟩,off YA.lp (Ne.symm n57) (Ne.symm n67),?_,YA.nd⟩ fr ?_
 ·exact s6 _ _ (f5 _ _ (s4 _ _ aaD) (by simpa using n56))
 ·show aj H6 ((y.ss.set i (pbN y i c)).map qL) _;rw[v_];exact aj.put (At.kp X_ _ _ (qK _) au) (aj.kp (s2.kp.trans X_) _ _ (dU _) as)
 ·show aj H6 ((y.ts.set i (QB (KZ y i) c (Ft y i c).d (Ft y i c).a)).map gm) _;rw[v_,eqr,et];exact aj.put (At.tup (s6 _ _ (f5 _ _ e5 (by simpa using fun z=>by rw[z,Xm] at f4; cases f4))) (cY [t0+c,t1+mz (Aw y i) (Ax y i) c,t2+(c-jc (Aw y i) (Ax y i) c)])) (aj.kp kp _ _ (iQ _) at')
 ·exact YA.pa.keep kp fun b hb o e=>off e (fun z=>U0 a.ds (by simp) b hb z.symm) (fun z=>U0 a.dt (by simp) b hb z.symm)
 ·rw[eqr];exact At.tup e6 (aj.cons (At.str _) (aj.cons (At.int _) (aj.cons (At.int _) (aj.cons (At.int _) (aj.cons (At.int _) aj.nil)))))
def Vd (q:Str×Int):PyData:=.tuple [.str q.1,.int q.2]
def mR (z:Yd×List Int×List Rw) (i:Nat):Yd×List Int×List Rw:=
 let c:=z.2.1.getD i 0
 (QS z.1 i c,match z.1.os.getD i none with
  | none=>z.2.1
  | some o=>z.2.1.set (z.1.ns.idxOf o) (z.2.1.getD (z.1.ns.idxOf o) 0+(Ft z.1 i c).d),z.2.2++[Ft z.1 i c])
def dJ (y:Yd) (cm:List Int):Nat->Yd×List Int×List Rw
 | 0=>(y,cm,[])
 | i+1=>mR (dJ y cm i) i
def uU (ns:List Str) (cs:List (Str×Int)):List Int:=ns.map fun n=>(cs.lookup n).getD 0
def Fe (y:Yd) (cs:List (Str×Int)):List Rw:=(dJ y (uU y.ns cs) y.ns.length).2.2
def uM (y:Yd) (cs:List (Str×Int)):Yd:={ (dJ y (uU y.ns cs) y.ns.length).1 with pa:=y.pa++[Fe y cs] }
theorem Vc {H:Hp} {q:Str×Int} {v:V} (h:At H (Vd q) v):∃b,v=.ref b/\H b=some (.tup [.str q.1,.int q.2]):=by
 obtain⟨b,xs,rfl,h1,h2⟩:=bj h;obtain⟨x0,_,rfl,b0,h2⟩:=aj.aR h2;obtain⟨x1,_,rfl,b1,h2⟩:=aj.aR h2;cases aj.gk h2;unfold At at b0 b1;subst b0 b1;exact⟨b,rfl,h1⟩
theorem BR (ns:List Str) (cs:List (Str×Int)):(uU ns cs).length=ns.length:=by unfold uU; rw[bZ]
theorem Qn {ns:List Str} {l:List (Str×Int)} {q:Str×Int} {j:Nat} (nd:ns.Nodup) (hj:ns[j]?=some q.1) (hq:q.1∉l.map (·.1)):uU ns (l++[q])=(uU ns l).set j q.2:=by
 have hjl:j<ns.length:=(iT.mp hj).1
 have hn:l.lookup q.1=none:=List.lookup_eq_none_iff.mpr fun p hp=>by
  simp only[bne_iff_ne,ne_eq];intro z;exact hq (by rw[z]; exact List.mem_map_of_mem hp)
 refine List.ext_getElem? fun k=>?_;rw[KH,BR];unfold uU;rw[cJ,cJ];by_cases e:j=k
 ·subst e;rw[bu rfl,bu hjl,hj];show some (((l++[q]).lookup q.1).getD 0)=_;rw[List.lookup_append,hn];obtain⟨q1,q2⟩:=q;simp[List.lookup]
 ·rw[aZ e];cases ek:ns[k]? with
  | none=>rfl
  | some n=>
   have ne:n≠q.1:=fun z=>e (by
    rw[z,<- hj] at ek
    exact((List.getElem?_inj hjl nd).mp ek.symm))
   show some (((l++[q]).lookup n).getD 0)=some ((l.lookup n).getD 0);rw[List.lookup_append]
   have:[q].lookup n=none:=List.lookup_eq_none_iff.mpr fun p hp=>by
    rw[gJ.mp hp];simpa using ne
   rw[this,Option.or_none]
structure RbI (y:Yd) (cm:List Int) (i:Nat):Prop where
 n:(dJ y cm i).1.ns=y.ns
 p:(dJ y cm i).1.ps=y.ps
 o:(dJ y cm i).1.os=y.os
 t:(dJ y cm i).1.tot=y.tot
 a:(dJ y cm i).1.pa=y.pa
 l:(dJ y cm i).2.1.length=cm.length
 r:(dJ y cm i).2.2.length=i
theorem fW (y:Yd) (cm:List Int):∀i,RbI y cm i
 | 0=>⟨rfl,rfl,rfl,rfl,rfl,rfl,rfl⟩
 | i+1=>by
  obtain⟨h1,h2,h3,h4,h5,h6,h7⟩:=fW y cm i;refine⟨h1,h2,h3,h4,h5,?_,?_⟩
  ·show(mR (dJ y cm i) i).2.1.length=_;unfold mR;dsimp only;split
   ·exact h6
   ·rw[Gw]; exact h6
  ·show((dJ y cm i).2.2++[_]).length=_;rw[cN,h7]; rfl
theorem uO {y:Yd} {cm:List Int} (YO:cW y):∀{i:Nat},i<=y.ns.length->cW (dJ y cm i).1
 | 0,_=>YO
 | i+1,h=>Wh (uO YO (Jk h)) (by rw[(fW y cm i).n]; omega)
theorem Fy {H:Hp} {ns:List Str} {vs:List V} (h:aj H (ns.map fun _=>PyData.int 0) vs):vs=(uU ns []).map V.int:=by
 have e:(ns.map fun _=>PyData.int 0)=(uU ns []).map .int:=by unfold uU; rw[xH]; rfl
 rw[e] at h;exact cO h
theorem rG (cs:List (Str×Int)):bK (cs.map Vd)=true:=bf.mpr fun d hd=>by obtain⟨x,_,rfl⟩:=du.mp hd; rfl
theorem Ti {cs:List (Str×Int)} {i:Nat} {q:Str×Int} (nn:(cs.map (·.1)).Nodup) (h:cs[i]?=some q):q.1∉(cs.take i).map (·.1):=fun z=>by
 have hi:=(iT.mp h).1;have hq:=(iT.mp h).2;rw[<- List.take_append_drop i cs,gY,pZ] at nn;refine nn.2.2 _ z q.1 ?_ rfl;rw[KN hi,hq];exact iV ..
def VL (C:Addr):Sp:=fun vs H Q _=>∃(a:Ya) (y:Yd) (l:Addr) (us:List V) (cs:List (Str×Int)),vs=[.ref a.p,.ref l]/\bD C H a y/\cW y/\H l=some (.lst us)/\aj H (cs.map Vd) us/\(cs.map (·.1)).Nodup/\(∀q∈cs,q.1∈y.ns)/\y.pa.length<500/\l∉a.own /\
 ∀p m xs H',H m=none->H p=none->p≠m->bD C H' { a with ou:=a.ou++[m] } (uM y cs)->H' p=some (.lst xs)->aj H' ((Fe y cs).map Jg) xs->Fr [a.ds,a.dt,a.lp] H H'->Q (.ref p) H'
theorem pL:aV ["self","comes","coming","name","come","rows","row","onward"] ["self","comes"] (aF lJ):=(by walk_at "c")
theorem xO {C:Addr} (F:iK K "beat" "Yard.beat" lJ f fd) (B:Bi mg) (Z:ZY K C) (aO:rT P w K mg base k C "check_names" ["self","names"] (tY C)) (gF:rT P w K mg base k C "post_beat" ["self","name","come"] (Zk C)):bJ P w K mg base gf (k+1) f fd ["self","comes"] (VL C):=by
 refine F.ok pL (by rintro vs H Q E ⟨a,y,l,us,cs,rfl,_⟩; rfl) (fun cdv A outer s H vs Q E hr h=>?_)
 obtain⟨a,y,l,us,cs,rfl,YA,YO,hl,au,nn,nin,pn,lo',q⟩:=h;have ND:=pL.nd;refine⟨_,(aq (bO (pm aO hr (pv 0) (ao (jr (nt:=2) (N':=["name","come"]) (js:=[]) rfl (bH (K:=K) rfl (pv 1)) pG.of (fun fp s' H'=>(bU (K:=K) (n:=2) rfl rfl (aK (aJ (i:=0) (by show List.Nodup (["name","come"]:List Str); decide) rfl (.inl (fY rfl)) (.inr (fY rfl))) (aK (aJ (i:=1) (by show List.Nodup (["name","come"]:List Str); decide) rfl (.inl (fY rfl)) (.inr (fY rfl))) bT)))) (fun fp s' H'=>ik) (fun fp s' H'=>(pv 0))) ak))) (aq (Ow (i:=2) ND rfl (by walk_at "o") (nt:=1) (N':=["name"]) (js:=[]) rfl (bH (K:=K) rfl (bQ (K:=K) rfl (pv 0))) rQ.of (fun fp s' H'=>(aJ (i:=0) (by show List.Nodup (["name"]:List Str); decide) rfl (.inl (fY rfl)) (.inr (fY rfl)))) (fun fp s' H'=>(pv 0)) (fun fp s' H'=>aA)) (aq (gA PassesOwn.never rfl (bH (K:=K) rfl (pv 1)) (bU (K:=K) (n:=2) rfl rfl (aK (aJ (i:=3) ND rfl (by walk_at "o")) (aK (aJ (i:=4) ND rfl (by walk_at "o")) bT))) (aH (dX (pv 4) (p_ (pv 2) (pv 3) (vo hr.units))))) (aq (aX (i:=5) ND rfl (by walk_at "o") (bG ak)) (aq (gA PassesOwn.never rfl (bH (K:=K) rfl (bQ (K:=K) rfl (pv 0))) (aJ (i:=3) ND rfl (by walk_at "o")) (aq (aX (i:=6) ND rfl (by walk_at "o") (pm gF hr (pv 0) (ao (pv 3) (ao (bB (pM hr.units) (pv 2) (pv 3) (fun _ _=>rfl)) ak)))) (aq (aX (i:=7) ND rfl (by walk_at "o") (bB (pM hr.units) (bQ (K:=K) rfl (pv 0)) (pv 3) (fun _ _=>rfl))) (aq (cP (bz Ay (pv 7) iI (bw _)) (aH (RQ (Nat.lt_of_le_of_lt (Nat.add_le_add_left (by decide:1<=64) _) hr.units) (pv 2) (pv 7) (bB bA (pv 6) aA (fun _ _=>rfl)) WY (by intros; rfl))) bM) (aH (bO (g_ (K:=K) rfl PySem.F.plainAttrs_list PySem.F.slot_list_append PySem.F.type_list_append fC (pv 5) (ao (pv 6) ak)))))))) (aq (bO (g_ (K:=K) rfl PySem.F.plainAttrs_list PySem.F.slot_list_append PySem.F.type_list_append fC (bQ (K:=K) rfl (pv 0)) (ao (pv 5) ak))) (aH (a_ (pt (oN) B.list jQ (ao (pv 5) ak)))))))))),?_⟩
 walk_at "rd";have lu:=au.length;rw[bZ] at lu;have l5:=YO.n5
 have hcs:cs.length<=5:=by
  have:(cs.map (·.1)).length<=y.ns.length:=List.Nodup.length_le_of_subset nn fun z hz=>by
   obtain⟨q',hq',rfl⟩:=du.mp hz;exact nin q' hq'
  rw[bZ] at this;omega
 refine Me.of (m:="check_names") (R:=fun p=>_) YA (fun _ _ _ _ _ _ _=>rfl) ?_;refine oM ((cs.map (·.1)).map .str) (fun i=>[some (.str (cs.getD i ("",0)).1),some (.int (cs.getD i ("",0)).2)]) (fun _=>rfl) (fun R hR=>by walk_at "rd"; exact hR) hl (by simp; omega) (by omega) (qJ _) ?_ ?_
 ·intro i x d H' hx hd s';have hi:i<cs.length:=by rw[<- lu]; exact(iT.mp hx).1
  have et:cs[i]?=some cs[i]:=dN hi;obtain⟨d',hd',ad⟩:=(au.mono s').get hx;rw[cJ,et] at hd';cases hd';obtain⟨b,rfl,eb⟩:=Vc ad;rw[cJ,cJ,et] at hd;cases hd;rw[lC,et];refine⟨fun R hR=>⟨b,_,rfl,e_.of eb,rfl,?_⟩,fun R hR=>?_⟩
  ·exact hR
  ·walk_at "rd";exact hR _ _ (aP.refl _) (At.str _)
 intro acc us1 H1 f1 s1 e1 a1;have:=kj a1;subst this;refine⟨a,y,acc,cs.map (·.1),rfl,YA.mono s1,e1,nn,by rw[bZ]; omega,fun n hn=>by obtain⟨q',hq',rfl⟩:=du.mp hn; exact nin q' hq',fun H2 s2=>?_⟩
 have s12:=s1.trans s2;have YB:=YA.mono s12;obtain⟨dx,ob⟩:=YA.ob;have ob2:=s12 _ _ ob;refine uT y.ns (y.ns.map fun _=>PyData.int 0) (fun i=>[some ((y.ns.map V.str).getD i .non)]) (fun _=>rfl) (a:=a.lo) (fun R hR=>by walk_at "rd"; exact⟨_,_,_,_,_,rfl,ob2,Z.cl,Z.n2,kY ..,hR⟩) YB.lo YO.nn (by simp) (by simp) (by simp; omega) (bf.mpr fun d hd=>by obtain⟨z,_,rfl⟩:=du.mp hd; rfl) ?_ ?_
 ·intro i x nm d H' hx hn hd s';have ex:(y.ns.map V.str).getD i .non=x:=by rw[lC,hx]; rfl
  rw[ex];rw[cJ,hn] at hx;cases hx;rw[cJ,hn] at hd;cases hd;refine⟨fun R hR=>by walk_at "rd"; exact hR,fun R hR=>by walk_at "rd"; exact hR,fun R hR=>?_⟩
  walk_at "rd";exact hR _ _ (aP.refl _) (At.int _)
 intro dc vz H3 fdc s3 edc az lz;have:=Fy az;subst this;have vN:=s12.trans s3;rw[qG];walk_at "rd"
 have Ye:H dc=none:=by
  cases q':H dc with
  | none=>rfl
  | some o=>rw[s12 _ _ q'] at fdc; cases fdc
 have ldc:l≠dc:=fun z=>by rw[<- z,hl] at Ye; cases Ye
 refine LK.of (vN _ _ hl) (fun i σ H'=>∃o3 o4,σ=[some (.ref a.p),some (.ref l),some (.ref dc),o3,o4,none,none,none]/\H' dc=some (.dK (zK y.ns ((uU y.ns (cs.take i)).map V.int)))/\Fr [dc] H3 H') ⟨_,_,rfl,edc,Fr.refl _ _⟩ (fun i σ H' _ ⟨_,_,_,_,fr⟩=>fr _ _ (vN _ _ hl) (by simpa using ldc)) ?_ ?_
 ·rintro i x σ H4 hx ⟨o3,o4,rfl,e4,fr4⟩;have hi:i<cs.length:=by rw[<- lu]; exact(iT.mp hx).1
  have et:cs[i]?=some cs[i]:=dN hi;have k4:dI H3 H4:=fr4.kp fun b hb xs z=>by rw[gJ.mp hb,edc] at z; cases z
  have au4:=aj.kp (vN.kp.trans k4) _ _ (rG _) au;obtain⟨d',hd',ad⟩:=au4.get hx;rw[cJ,et] at hd';cases hd';obtain⟨b,rfl,eb⟩:=Vc ad;refine⟨b,_,rfl,e_.of eb,rfl,?_⟩;walk_at "rd";obtain⟨j,hj⟩:=GF (nin _ (dM et));refine⟨dc,_,rfl,rP.z e4 YO.nn hj (by rw[bZ,BR]) (by omega),_,_,rfl,?_,fr4.trans (Fr.put (by simp))⟩
  rw[aC,cD et,Qn YO.nn hj (Ti nn et),v_]
 rintro σ H4 ⟨o3,o4,rfl,e4,fr4⟩;rw[lu,pY] at e4;have lcm:(uU y.ns cs).length=y.ns.length:=BR ..;have eR:Fe y cs=(dJ y (uU y.ns cs) y.ns.length).2.2:=rfl;have eY:uM y cs={ (dJ y (uU y.ns cs) y.ns.length).1 with pa:=y.pa++[Fe y cs] }:=rfl
 generalize uU y.ns cs=cm at e4 lcm eR eY;walk_at "rd";refine⟨by decide,fun m H5 fm s5 em=>?_⟩
 have Uz:aP H H4:=fun b o z=>fr4 _ _ (vN _ _ z) (by simp; intro e; rw[e,Ye] at z; cases z)
 have s05:=Uz.trans s5
 have fm0:H m=none:=by
  cases q':H m with
  | none=>rfl
  | some o=>rw[Uz _ _ q'] at fm; cases fm
 have mdc:m≠dc:=fun z=>by rw[z,e4] at fm; cases fm
 have Y5:=YA.mono s05
 have Ei:∀b∈a.own,b≠dc/\b≠m:=fun b hb=>by
  obtain⟨o,e,_⟩:=YA.al b hb;exact⟨fun z=>(by rw[z,Ye] at e; cases e),fun z=>(by rw[z,fm0] at e; cases e)⟩
 rw[qG];walk_at "rd";obtain⟨dx5,ob5⟩:=Y5.ob;refine⟨_,_,_,_,_,rfl,ob5,Z.cl,Z.n2,kY ..,?_⟩;have nsl:(y.ns.map V.str).length=y.ns.length:=bZ ..;refine LK.of Y5.lo (fun i σ H'=>∃o3 o4 o6 o7 xs,σ=[some (.ref a.p),some (.ref l),some (.ref dc),o3,o4,some (.ref m),o6,o7]/\bD C H' a (dJ y cm i).1/\H' dc=some (.dK (zK y.ns ((dJ y cm i).2.1.map V.int)))/\H' m=some (.lst xs)/\aj H' ((dJ y cm i).2.2.map Jg) xs/\Fr [a.ds,a.dt,dc,m] H5 H') ⟨_,_,_,_,[],rfl,Y5,s5 _ _ e4,em,aj.nil,Fr.refl _ _⟩ (fun i σ H' _ ⟨_,_,_,_,_,_,Y',_⟩=>by have:=Y'.lo; rw[(fW y cm i).n] at this; exact this) ?_ ?_
 ·rintro i x σ H6 hx ⟨o3,o4,o6,o7,xs,rfl,Y6,e6,em6,ax,fr6⟩;rw[cJ] at hx;cases hn:y.ns[i]? with
  | none=>rw[hn] at hx; cases hx
  | some n=>
  rw[hn] at hx;cases hx;have hi:i<y.ns.length:=(iT.mp hn).1;obtain⟨r1,r2,r3,r4,r5,r6,r7⟩:=fW y cm i;have YO6:cW (dJ y cm i).1:=uO YO (lK hi);have aau:dJ y cm (i+1)=mR (dJ y cm i) i:=rfl;rw[aau];generalize dJ y cm i=z at Y6 e6 ax YO6 r1 r2 r3 r4 r5 r6 r7 ⊢;obtain⟨zy,zc,zr⟩:=z;dsimp only at r1 r2 r3 r4 r5 r6 r7 Y6 e6 ax YO6;have ec:zc[i]?=some (zc.getD i 0):=by rw[lC,dN (by omega:i<zc.length)]; rfl
  walk_at "rd";refine Me.of (m:="post_beat") (R:=fun p=>_) Y6 (fun _ _ _ _ _ _ _=>rfl) ?_;refine⟨dc,.int (zc.getD i 0),rfl,lB.z e6 YO.nn hn (by rw[bZ]; omega) (by rw[cJ,ec]; rfl),?_⟩
  refine⟨a,zy,i,n,zc.getD i 0,rfl,Y6,YO6,by rw[r1]; exact hn,fun v H7 Y7 U7 av=>?_⟩
  have QV:a.ds∈a.own/\a.dt∈a.own:=by unfold Ya.own; simp
  have dcO:dc∉[a.ds,a.dt]:=by simp; exact⟨Ne.symm (Ei _ QV.1).1,Ne.symm (Ei _ QV.2).1⟩
  have mO:m∉[a.ds,a.dt]:=by simp; exact⟨Ne.symm (Ei _ QV.1).2,Ne.symm (Ei _ QV.2).2⟩
  have e7:=U7 _ _ e6 dcO;have em7:=U7 _ _ em6 mO;have k67:dI H6 H7:=Y6.kp (U7.sub fun b hb=>.inl (by simp at hb; rcases hb with rfl | rfl; exact QV.1; exact QV.2))
  have ax7:=aj.kp k67 _ _ (jL _) ax;have lxs:=ax.length;rw[bZ,r7] at lxs;have l2:=YO.lo;have eo:y.os[i]?=some y.os[i]:=dN (by omega)
  have eo':zy.os.getD i none=y.os[i]:=by rw[r3,lC,eo]; rfl
  have dn7:H7 a.dn=some (.dK (zK y.ns (y.os.map j_))):=by
   have:=Y7.dn;rw[show(QS zy i (zc.getD i 0)).ns=zy.ns from rfl,show(QS zy i (zc.getD i 0)).os=zy.os from rfl,r1,r3] at this;exact this
  have helper:∀(H8:Hp) (cn:List Int),H8 dc=some (.dK (zK y.ns (cn.map V.int)))->Fr [dc] H7 H8->H8 m=some (.lst xs)/\(bD C (upd H8 m (.lst (xs++[v]))) a (QS zy i (zc.getD i 0))/\upd H8 m (.lst (xs++[v])) dc=some (.dK (zK y.ns (cn.map V.int)))/\upd H8 m (.lst (xs++[v])) m=some (.lst (xs++[v]))/\aj (upd H8 m (.lst (xs++[v]))) ((zr++[Ft zy i (zc.getD i 0)]).map Jg) (xs++[v])/\Fr [a.ds,a.dt,dc,m] H5 (upd H8 m (.lst (xs++[v])))):=fun H8 cn e8 Yc=>by
   have U_:=Yc _ _ em7 (by simpa using mdc)
   have k8:dI H7 H8:=Yc.kp fun b hb xs z=>by rw[gJ.mp hb,e7] at z; cases z
   have k9:dI H8 (upd H8 m (.lst (xs++[v]))):=dI.putL U_;have k79:=k8.trans k9;refine⟨U_,Y7.keep k79 (fun b hb o e=>by rw[aN (Ei b hb).2]; exact Yc _ _ e (by simpa using(Ei b hb).1)),by rw[aN mdc.symm]; exact e8,aC,?_,?_⟩
   ·rw[gY];exact(aj.kp k79 _ _ (jL _) ax7).snoc (At.kp k79 _ _ (rw_noL _) av)
   ·exact fr6.trans ((U7.sub fun b hb=>.inl (by simp at hb ⊢; rcases hb with h | h <;> simp[h])).trans ((Yc.sub fun b hb=>.inl (by rw[gJ.mp hb]; simp)).trans (Fr.put (by simp))))
  have stp:mR (zy,zc,zr) i=(QS zy i (zc.getD i 0),match y.os[i] with
   | none=>zc
   | some o=>zc.set (y.ns.idxOf o) (zc.getD (y.ns.idxOf o) 0+(Ft zy i (zc.getD i 0)).d),zr++[Ft zy i (zc.getD i 0)]):=by
   unfold mR;dsimp only;rw[eo',r1]
  rw[stp];obtain⟨dx7,ob7⟩:=Y7.ob;have dgo:=lB.z dn7 YO.nn hn (by rw[bZ]; omega) (v:=j_ y.os[i]) (by rw[cJ,eo]; rfl)
  refine⟨_,_,_,_,_,rfl,ob7,Z.cl,Z.n4,ql ..,_,_,rfl,dgo,trivial,?_⟩;cases how:y.os[i] with
  | none=>
   rw[aZ (by simp[j_])]
   obtain⟨U_,h8⟩:=helper H7 zc e7 (Fr.refl _ _);exact⟨.inl ⟨rfl,_,cg.of U_⟩,m,xs,v,rfl,rfl,U_,aY (by omega),_,_,_,_,_,rfl,h8⟩
  | some o=>
   rw[bu (by simp[j_])]
   have oin:o∈y.ns:=GJ (YO.og i o (by rw[eo,how]))
   have hj:y.ns.idxOf o<y.ns.length:=List.idxOf_lt_length_of_mem oin;have ej:y.ns[y.ns.idxOf o]?=some o:=by rw[dN hj,List.getElem_idxOf hj]
   have ecj:zc[y.ns.idxOf o]?=some (zc.getD (y.ns.idxOf o) 0):=by rw[lC,dN (by omega:y.ns.idxOf o<zc.length)]; rfl
   obtain⟨b,ys,rfl,hb1,hb2⟩:=bj av;obtain⟨x0,_,rfl,b0,hb2⟩:=aj.aR hb2;obtain⟨x1,_,rfl,b1,hb2⟩:=aj.aR hb2;obtain⟨x2,_,rfl,b2,hb2⟩:=aj.aR hb2;have ex2:x2=.int (Ft zy i (zc.getD i 0)).d:=by unfold At at b2; exact b2
   subst ex2;refine⟨dc,.int (zc.getD (y.ns.idxOf o) 0),rfl,lB.z e7 YO.nn ej (by rw[bZ]; omega) (by rw[cJ,ecj]; rfl),Ix.tup hb1 (bh (j:=2) rfl) ⟨_,_,rfl,rfl,_,rP.z e7 YO.nn ej (by rw[bZ]; omega) (by omega),?_⟩⟩
   obtain⟨U_,h8⟩:=helper (upd H7 dc (.dK (zK y.ns ((zc.map V.int).set (y.ns.idxOf o) (.int (zc.getD (y.ns.idxOf o) 0+(Ft zy i (zc.getD i 0)).d)))))) (zc.set (y.ns.idxOf o) (zc.getD (y.ns.idxOf o) 0+(Ft zy i (zc.getD i 0)).d)) (by rw[aC,v_]) (Fr.put (by simp))
   exact⟨.inl ⟨rfl,_,cg.of U_⟩,m,xs,_,rfl,rfl,U_,aY (by omega),_,_,_,_,_,rfl,h8⟩
 ·rintro σ H6 ⟨o3,o4,o6,o7,xs,rfl,Y6,e6,em6,ax,fr6⟩;rw[nsl] at Y6 e6 ax;rw[<- eR] at ax;walk_at "rd";have RI:=fW y cm y.ns.length;have pl:=Y6.pa.length;rw[RI.a] at pl;obtain⟨dx6,ob6⟩:=Y6.ob;have lpO:a.lp∈a.own:=by unfold Ya.own; simp
  refine⟨_,_,_,_,_,rfl,ob6,Z.cl,Z.n7,BJ ..,.inl ⟨rfl,_,cg.of Y6.lp⟩,a.lp,_,_,rfl,rfl,Y6.lp,aY (by rw[bZ]; omega),?_⟩
  have lm:m≠a.lp:=Ne.symm (Ei _ lpO).2;have k7:dI H6 (upd H6 a.lp (.lst (a.ou.map V.ref++[.ref m]))):=dI.putL Y6.lp;have f7:Fr [a.lp] H6 (upd H6 a.lp (.lst (a.ou.map V.ref++[.ref m]))):=Fr.put (by simp)
  have e7:upd H6 a.lp (.lst (a.ou.map V.ref++[.ref m])) a.lp=some (.lst (a.ou.map V.ref++[.ref m])):=aC;generalize upd H6 a.lp (.lst (a.ou.map V.ref++[.ref m]))=H7 at k7 f7 e7 ⊢;have em7:=f7 _ _ em6 (by simpa using lm)
  refine⟨m,xs,rfl,em7,fun p fp=>?_⟩;have s8:=aQ fp (HO.lst xs);have e8:upd H7 p (.lst xs) p=some (.lst xs):=aC;generalize upd H7 p (.lst xs)=H8 at s8 e8 ⊢;have k68:dI H6 H8:=k7.trans s8.kp
  have Yc:Fr [a.ds,a.dt,a.lp] H H8:=fun b o z nb=>by
   simp only[bI,dD,or_false,not_or] at nb;have h5:=s05 _ _ z
   have h6:=fr6 _ _ h5 (by
    simp only[bI,dD,or_false,not_or]
    exact⟨nb.1,nb.2.1,fun e=>(by rw[e,Ye] at z; cases z),fun e=>(by rw[e,fm0] at z; cases z)⟩)
   exact s8 _ _ (f7 _ _ h6 (by simpa using nb.2.2))
  have fp0:H p=none:=by
   cases q':H p with
   | none=>rfl
   | some o=>
    have hb:H5 p=some o:=s05 _ _ q';by_cases c1:p∈[a.ds,a.dt,a.lp]
    ·exfalso;simp only[bI,dD,or_false] at c1;rcases c1 with h | h | h
     ·obtain⟨o',e',_⟩:=Y6.al a.ds (by unfold Ya.own; simp)
      rw[h,f7 _ _ e' (by simp; intro z; have:=YA.nd; unfold Ya.own at this; have:=(pZ.mp this).1; simp[z] at this)] at fp
      cases fp
     ·obtain⟨o',e',_⟩:=Y6.al a.dt (by unfold Ya.own; simp)
      rw[h,f7 _ _ e' (by simp; intro z; have:=YA.nd; unfold Ya.own at this; have:=(pZ.mp this).1; simp[z] at this)] at fp
      cases fp
     ·rw[h,e7] at fp; cases fp
    ·exfalso;simp only[bI,dD,or_false,not_or] at c1
     have h6:=fr6 _ _ hb (by
      simp only[bI,dD,or_false,not_or]
      exact⟨c1.1,c1.2.1,fun e=>(by rw[e,Ye] at q'; cases q'),fun e=>(by rw[e,fm0] at q'; cases q')⟩)
     rw[f7 _ _ h6 (by simpa using c1.2.2)] at fp
     cases fp
  have pm:p≠m:=fun z=>by rw[z,em7] at fp; cases fp
  have ax8:=aj.kp k68 _ _ (jL _) ax;have nd:=YA.nd;unfold Ya.own at nd;obtain⟨Fv,nd2,U0⟩:=pZ.mp nd;have ae5:∀b∈a.own,b≠a.lp->∀o,H6 b=some o->H8 b=some o:=fun b hb n o e=>s8 _ _ (f7 _ _ e (by simpa using n))
  have X6:a.p≠a.lp/\a.lo≠a.lp/\a.dp≠a.lp/\a.dn≠a.lp/\a.ds≠a.lp/\a.dt≠a.lp:=by
   simp only[jm,bI,dD,not_or,or_false] at Fv;exact⟨Fv.1.2.2.2.2.2,Fv.2.1.2.2.2.2,Fv.2.2.1.2.2.2,Fv.2.2.2.1.2.2,Fv.2.2.2.2.1.2,Fv.2.2.2.2.2.1⟩
  have kO:∀{b:Addr} {o:HO},H6 b=some o->b≠a.lp->H8 b=some o:=fun {b o} e n=>s8 _ _ (f7 _ _ e (by simpa using n))
  obtain⟨v3,c3,g3⟩:=Y6.dp;obtain⟨v5,c5,g5⟩:=Y6.ds;obtain⟨v6,c6,g6⟩:=Y6.dt;refine q p m xs H8 fm0 fp0 pm ?_ e8 ax8 Yc;rw[eY];refine⟨⟨dx6,kO ob6 X6.1⟩,kO Y6.lo X6.2.1,⟨v3,kO c3 X6.2.2.1,aj.kp k68 _ _ (fB _) g3⟩,kO Y6.dn X6.2.2.2.1,⟨v5,kO c5 X6.2.2.2.2.1,aj.kp k68 _ _ (dU _) g5⟩,⟨v6,kO c6 X6.2.2.2.2.2,aj.kp k68 _ _ (iQ _) g6⟩,?_,?_,?_⟩
  ·show H8 a.lp=some (.lst ((a.ou++[m]).map V.ref));rw[gY];exact s8 _ _ e7
  ·show bR H8 (a.ou++[m]) (y.pa++[Fe y cs]);have P6:=Y6.pa;rw[RI.a] at P6;exact bR.snoc (P6.keep k68 fun b hb o e=>kO e (fun z=>U0 a.lp (by simp) b hb z.symm)) (s8 _ _ em7) ax8
  ·show([a.p,a.lo,a.dp,a.dn,a.ds,a.dt,a.lp]++(a.ou++[m])).Nodup;rw[<- Dl,pZ];exact⟨nd,by simp,fun u hu v hv e=>by rw[gJ.mp hv] at e; exact(Ei u hu).2 e⟩
theorem lY:aV ["self","name"] ["self","name"] (aF jj):=(by walk_at "c")
theorem uF {C:Addr} (F:iK K "counts" "Yard.counts" jj f fd) (Z:ZY K C) (aO:rT P w K mg base k C "check_names" ["self","names"] (tY C)):bJ P w K mg base gf (k+1) f fd ["self","name"] (mU C gT):=by
 refine F.ok lY (by rintro vs H Q E ⟨a,y,i,n,d,rfl,_⟩; rfl) (fun cdv A outer s H vs Q E hr h=>?_)
 obtain⟨a,y,i,n,d,rfl,YA,YO,hn,hd,q⟩:=h;have ND:=lY.nd;refine⟨_,(aq (bO (pm aO hr (pv 0) (ao (bG (ao (pv 1) ak)) ak))) (aH (a_ (bB (pM hr.units) (bQ (K:=K) rfl (pv 0)) (pv 1) (fun _ _=>rfl))))),?_⟩;walk_at "rd";refine Me.of (m:="check_names") (R:=fun p=>_) YA (fun _ _ _ _ _ _ _=>rfl) ?_;refine⟨by decide,fun p H1 f1 s1 e1=>?_⟩
 refine⟨a,y,p,[n],rfl,YA.mono s1,e1,by simp,by simp,by intro m hm; rw[gJ.mp hm]; exact dM hn,fun H2 s2=>?_⟩
 have YB:=YA.mono (s1.trans s2);obtain⟨us,ed,av⟩:=YB.dt;obtain⟨v,ev,aw⟩:=av.nth hd;have lv:=av.length;have l1:=YO.lt;rw[bZ] at lv;obtain⟨dx,ob⟩:=YB.ob;exact⟨_,_,_,_,_,rfl,ob,Z.cl,Z.n6,qj ..,_,v,rfl,lB.z ed YO.nn hn (by omega) ev,q _ _ (s1.trans s2) aw⟩
def Ur (C:Addr):Sp:=fun vs H Q _=>∃(a:Ya) (y:Yd) (i:Nat) (n:Str) (v:V) (x:gM),vs=[.ref a.p,.str n,v]/\bD C H a y/\cW y/\y.ns[i]?=some n/\At H (dz x) v/\((y.ps.set i x).map gM.lo).sum<=y.tot/\∀H',bD C H' a { y with ps:=y.ps.set i x }->Fr [a.dp] H H'->Q .non H'
theorem yW:∀{ns:List Str} {ps:List gM} {i:Nat} {n:Str},ns.Nodup->ps.length=ns.length->ns[i]?=some n->((ns.zip ps).map fun z=>if z.1=n then none else some (dz z.2)).filterMap id=(ps.eraseIdx i).map dz
 | [],_,i,n,_,_,h=>by simp at h
 | m::ns,[],i,n,_,l,_=>by simp at l
 | m::ns,x::ps,i,n,nd,l,h=>by
  have X7:=jm.mp nd
  have ad1:∀(ns:List Str) (ps:List gM),ps.length=ns.length->n∉ns->((ns.zip ps).map fun z=>if z.1=n then none else some (dz z.2)).filterMap id=ps.map dz:=by
   intro ns
   induction ns with
   | nil=>intro ps l _; cases ps with
    | nil=>rfl
    | cons x ps=>simp at l
   | cons m ns ih=>
    intro ps l hm;cases ps with
    | nil=>simp at l
    | cons x ps=>
     simp only[bI,not_or] at hm;rw[List.zip_cons_cons,iB,aZ (Ne.symm hm.1),Oj];show dz x::_=_;rw[ih ps (by simpa using l) hm.2]
     rfl
  cases i with
  | zero=>
   cases h;rw[List.zip_cons_cons,iB,bu rfl,List.filterMap_cons_none rfl,ad1 ns ps (by simpa using l) X7.1]
   rfl
  | succ i=>
   have hin:n∈ns:=dM (show ns[i]?=some n from h);rw[List.zip_cons_cons,iB,aZ (fun z=>X7.1 (by rw[show m=n from z]; exact hin)),Oj]
   show dz x::_=_;rw[yW X7.2 (by simpa using l) (show ns[i]?=some n from h)]
   rfl
theorem yZ {α β:Type} (g:α->β):∀(l:List α) (i:Nat),(l.map g).eraseIdx i=(l.eraseIdx i).map g
 | [],_=>rfl
 | a::l,0=>rfl
 | a::l,i+1=>by simp only[iB,List.eraseIdx_cons_succ,yZ g l i]
theorem yL:∀{l:List Int} {i:Nat} {x:Int},i<l.length->(l.eraseIdx i).sum+x=(l.set i x).sum
 | [],i,x,h=>by simp at h
 | a::l,0,x,h=>by simp; omega
 | a::l,i+1,x,h=>by
  have:=yL (l:=l) (i:=i) (x:=x) (by simpa using h)
  simp only[List.eraseIdx_cons_succ,DW,vV];omega
theorem Ya.nds {a:Ya} (nd:a.own.Nodup):(a.dp≠a.p/\a.dn≠a.p)/\(∀b∈a.own,b≠a.dp->b∉[a.dp]):=⟨by
  unfold Ya.own at nd;have:=(pZ.mp nd).1;simp only[jm,bI,dD,not_or,or_false] at this
  exact⟨Ne.symm this.1.2.1,Ne.symm this.1.2.2.1⟩,fun b _ h=>by simpa using h⟩
theorem bD.acF {C:Addr} {H H':Hp} {a:Ya} {y:Yd} {xs:List gM} {vs:List V} (A:bD C H a y) (e:H' a.dp=some (.dK (zK y.ns vs))) (av:aj H' (xs.map dz) vs) (f:Fr [a.dp] H H') (m:dI H H'):bD C H' a { y with ps:=xs }:=by
 obtain⟨⟨dx,h1⟩,h2,⟨v3,h3,g3⟩,h4,⟨v5,h5,g5⟩,⟨v6,h6,g6⟩,h7,h8,h9⟩:=A;have nd:=h9;unfold Ya.own at nd;obtain⟨Fv,nd2,U0⟩:=pZ.mp nd;simp only[jm,bI,dD,not_or,or_false] at Fv;obtain⟨⟨n12,n13,n14,n15,n16,n17⟩,⟨n23,n24,n25,n26,n27⟩,⟨n34,n35,n36,n37⟩,⟨n45,n46,n47⟩,⟨n56,n57⟩,n67,_⟩:=Fv;have kk:∀{b:Addr} {o:HO},H b=some o->b≠a.dp->H' b=some o:=fun {b o} z n=>f b o z (by simpa using n)
 exact⟨⟨dx,kk h1 n13⟩,kk h2 n23,⟨vs,e,av⟩,kk h4 (Ne.symm n34),⟨v5,kk h5 (Ne.symm n35),aj.kp m _ _ (dU _) g5⟩,⟨v6,kk h6 (Ne.symm n36),aj.kp m _ _ (iQ _) g6⟩,kk h7 (Ne.symm n37),h8.keep m fun b hb o z=>kk z (Ne.symm (U0 a.dp (by simp) b hb)),h9⟩
theorem bD.acG {C:Addr} {H H':Hp} {a:Ya} {y:Yd} {os:List (Option Str)} (A:bD C H a y) (e:H' a.dn=some (.dK (zK y.ns (os.map j_)))) (f:Fr [a.dn] H H') (m:dI H H'):bD C H' a { y with os:=os }:=by
 obtain⟨⟨dx,h1⟩,h2,⟨v3,h3,g3⟩,h4,⟨v5,h5,g5⟩,⟨v6,h6,g6⟩,h7,h8,h9⟩:=A;have nd:=h9;unfold Ya.own at nd;obtain⟨Fv,nd2,U0⟩:=pZ.mp nd;simp only[jm,bI,dD,not_or,or_false] at Fv;obtain⟨⟨n12,n13,n14,n15,n16,n17⟩,⟨n23,n24,n25,n26,n27⟩,⟨n34,n35,n36,n37⟩,⟨n45,n46,n47⟩,⟨n56,n57⟩,n67,_⟩:=Fv;have kk:∀{b:Addr} {o:HO},H b=some o->b≠a.dn->H' b=some o:=fun {b o} z n=>f b o z (by simpa using n)
 exact⟨⟨dx,kk h1 n14⟩,kk h2 n24,⟨v3,kk h3 n34,aj.kp m _ _ (fB _) g3⟩,e,⟨v5,kk h5 (Ne.symm n45),aj.kp m _ _ (dU _) g5⟩,⟨v6,kk h6 (Ne.symm n46),aj.kp m _ _ (iQ _) g6⟩,kk h7 (Ne.symm n47),h8.keep m fun b hb o z=>kk z (Ne.symm (U0 a.dn (by simp) b hb)),h9⟩
theorem Gr.of {H:Hp} {l b:Addr} {xs zs:List V} {Q:VK} (h1:H l=some (.lst xs)) (h2:H b=some (.lst zs)) (hn:xs.length+zs.length<=1000) (q:∀p H',H p=none->aP H H'->H' p=some (.lst (xs++zs))->Q (.ref p) H'):Gr (.ref l) (.ref b) H Q:=
 ⟨l,b,xs,zs,rfl,rfl,h1,h2,lK (aY hn),fun p fp=>q p _ fp (aQ fp _) aC⟩
theorem lZ:aV ["self","name","post","others"] ["self","name","post"] (aF jk):=(by walk_at "c")
theorem uG {C:Addr} (F:iK K "change" "Yard.change" jk f fd) (B:Bi mg) (Z:ZY K C) (aO:rT P w K mg base k C "check_names" ["self","names"] (tY C)) (eG:Ct P w K mg base k "check_least" ["total","posts"] Aa):bJ P w K mg base gf (k+1) f fd ["self","name","post"] (Ur C):=by
 refine F.ok lZ (by rintro vs H Q E ⟨a,y,i,n,v,x,rfl,_⟩; rfl) (fun cdv A outer s H vs Q E hr h=>?_)
 obtain⟨a,y,i,n,v,x,rfl,YA,YO,hn,hv,hs,q⟩:=h;have ND:=lZ.nd;refine⟨_,(aq (bO (pm aO hr (pv 0) (ao (bG (ao (pv 1) ak)) ak))) (aq (qW (i:=3) ND rfl (by walk_at "o") (nt:=1) (N':=["other","name","self"]) (js:=[1,0]) rfl (bH (K:=K) rfl (bQ (K:=K) rfl (pv 0))) pG.of (fun fp s' H'=>(aJ (i:=0) (by show List.Nodup (["other","name","self"]:List Str); decide) rfl (.inl (fY rfl)) (.inr (fY rfl)))) (fun fp s' H'=>Tc (bz Jw (pv 0) (pv 1) (bw _))) (fun fp s' H'=>(bB (pM hr.units) (bQ (K:=K) rfl (pv 2)) (pv 0) (fun _ _=>rfl)))) (aq (bO (pf eG hr (ao (bQ (K:=K) rfl (pv 0)) (ao (aU Ba (pv 3) (bG (ao (pv 2) ak))) ak)))) (aH (dX (pv 2) (p_ (bQ (K:=K) rfl (pv 0)) (pv 1) (vo hr.units))))))),?_⟩
 walk_at "rd";refine Me.of (m:="check_names") (R:=fun p=>_) YA (fun _ _ _ _ _ _ _=>rfl) ?_;refine⟨by decide,fun p H1 f1 s1 e1=>?_⟩
 refine⟨a,y,p,[n],rfl,YA.mono s1,e1,by simp,by simp,by intro m hm; rw[gJ.mp hm]; exact dM hn,fun H2 s2=>?_⟩
 have s12:=s1.trans s2;have YB:=YA.mono s12;have l1:=YO.lp;have l5:=YO.n5;have hi:i<y.ns.length:=(iT.mp hn).1;obtain⟨dx,ob⟩:=YB.ob;obtain⟨us,ed,av⟩:=YB.dp;have lv:=av.length;rw[bZ] at lv
 refine Tw ((y.ns.zip y.ps).map fun z=>if z.1=n then none else some (dz z.2)) (fun R hR=>by walk_at "rd"; exact⟨_,_,_,_,_,rfl,ob,Z.cl,Z.n2,kY ..,hR⟩) YB.lo (by rw[bZ,bZ,vY]; omega) (by rw[bZ]; omega) (fun d hd=>by
  obtain⟨z,_,ez⟩:=du.mp hd;split at ez
  ·cases ez
  ·cases ez; exact jM _) ?_ ?_
 ·intro j x' o H' hx ho s';rw[cJ] at hx;cases et:y.ns[j]? with
  | none=>rw[et] at hx; cases hx
  | some m=>
  rw[et] at hx;cases hx;have hj:j<y.ns.length:=(iT.mp et).1;have ep:y.ps[j]?=some y.ps[j]:=dN (by omega)
  have ez:(y.ns.zip y.ps)[j]?=some (m,y.ps[j]):=by rw[Dr]; exact⟨et,ep⟩
  rw[cJ,ez] at ho
  replace ho:=Option.some.inj ho
  dsimp only at ho;have ec:b7 [1,0] [some (V.ref a.p),some (V.str n),some v,none]=[some (.str n),some (.ref a.p)]:=rfl;rw[ec];refine⟨fun R hR=>by walk_at "rd"; exact hR,fun R hR=>?_,fun d H4 e4 s4 R hR=>?_⟩
  ·walk_at "rd";have:=hR H' (aP.refl _);rw[<- ho] at this;by_cases c:m=n
   ·rw[bu c] at this;simpa[c] using this
   ·rw[aZ c] at this;simpa[c] using this
  ·rw[e4] at ho;split at ho
   ·cases ho
   cases ho;walk_at "rd";obtain⟨v',ev',av'⟩:=av.nth (i:=j) (d:=dz y.ps[j]) (by rw[cJ,ep]; rfl)
   have Uy:=s'.trans s4;exact⟨_,_,_,_,_,rfl,Uy _ _ ob,Z.cl,Z.n3,rE ..,_,v',rfl,lB.z (Uy _ _ ed) YO.nn et (by omega) ev',hR _ _ (aP.refl _) (av'.mono Uy)⟩
 ·intro acc us3 H3 f3 s3 e3 a3;rw[yW YO.nn l1 hn] at a3;have vN:=s12.trans s3;refine⟨_,_,_,_,_,rfl,s3 _ _ ob,Z.cl,Z.n1,Er ..,by decide,fun p4 H4 f4 s4 e4=>?_⟩
  have la:=a3.length;rw[bZ,List.length_eraseIdx] at la;refine Gr.of (s4 _ _ e3) e4 (by simp; split at la <;> omega) fun p5 H5 f5 s5 e5=>?_
  have QM:=vN.trans (s4.trans s5);refine⟨y.tot,p5,_,y.ps.eraseIdx i++[x],rfl,e5,?_,?_,?_,fun H6 s6=>?_⟩
  ·rw[gY];exact(a3.mono (s4.trans s5)).snoc (hv.mono QM)
  ·rw[cN,List.length_eraseIdx]; simp; split <;> omega
  ·rw[gY,List.sum_append];have:=yL (l:=y.ps.map gM.lo) (i:=i) (x:=x.lo) (by rw[bZ]; omega)
   rw[<- v_,yZ] at this;rw[<- this] at hs;simpa using hs
  ·have V1:=QM.trans s6;have s36:aP H2 H6:=s3.trans (s4.trans (s5.trans s6));refine⟨_,_,_,_,_,rfl,s36 _ _ ob,Z.cl,Z.n3,rE ..,_,_,rfl,rP.z (s36 _ _ ed) YO.nn hn (by omega) (by omega),?_⟩
   have k7:dI H6 (upd H6 a.dp (.dK (zK y.ns (us.set i v)))):=dI.putD (s36 _ _ ed);have f7:Fr [a.dp] H6 (upd H6 a.dp (.dK (zK y.ns (us.set i v)))):=Fr.put (by simp)
   refine q _ (YA.acF (xs:=y.ps.set i x) (vs:=us.set i v) aC ?_ ((V1.fr _).trans f7) (V1.kp.trans k7)) ((V1.fr _).trans f7);rw[v_];exact aj.put (At.kp (V1.kp.trans k7) _ _ (jM _) hv) (aj.kp (s36.kp.trans k7) _ _ (fB _) av)
def Uq (C:Addr):Sp:=fun vs H Q _=>∃(a:Ya) (y:Yd) (i:Nat) (n:Str) (o:Option Str),vs=[.ref a.p,.str n,j_ o]/\bD C H a y/\cW y/\y.ns[i]?=some n/\(∀z,o=some z->z∈y.ns.drop (i+1))/\∀H',bD C H' a { y with os:=y.os.set i o }->Fr [a.dn] H H'->Q .non H'
theorem pK:aV ["self","name","onward"] ["self","name","onward"] (aF lH):=(by walk_at "c")
theorem xN {C:Addr} (F:iK K "lead" "Yard.lead" lH f fd) (B:Bi mg) (Z:ZY K C) (aO:rT P w K mg base k C "check_names" ["self","names"] (tY C)) (dG:Ct P w K mg base k "check_onward" ["onward","behind"] NQ):bJ P w K mg base gf (k+1) f fd ["self","name","onward"] (Uq C):=by
 refine F.ok pK (by rintro vs H Q E ⟨a,y,i,n,o,rfl,_⟩; rfl) (fun cdv A outer s H vs Q E hr h=>?_)
 obtain⟨a,y,i,n,o,rfl,YA,YO,hn,ho,q⟩:=h;have ND:=pK.nd;refine⟨_,(aq (bO (pm aO hr (pv 0) (ao (bG (ao (pv 1) ak)) ak))) (aq (bO (pf dG hr (ao (pv 2) (ao (cQ qM (bQ (K:=K) rfl (pv 0)) (dY (aU bC (g_ (K:=K) rfl PySem.F.plainAttrs_list PySem.F.slot_list_index PySem.F.type_list_index Hi (bQ (K:=K) rfl (pv 0)) (ao (pv 1) ak)) aA)) dZ) ak)))) (aH (dX (pv 2) (p_ (bQ (K:=K) rfl (pv 0)) (pv 1) (vo hr.units)))))),?_⟩;walk_at "rd";refine Me.of (m:="check_names") (R:=fun p=>_) YA (fun _ _ _ _ _ _ _=>rfl) ?_;refine⟨by decide,fun p H1 f1 s1 e1=>?_⟩
 refine⟨a,y,p,[n],rfl,YA.mono s1,e1,by simp,by simp,by intro m hm; rw[gJ.mp hm]; exact dM hn,fun H2 s2=>?_⟩
 have s12:=s1.trans s2;have YB:=YA.mono s12;have l1:=YO.lo;have l5:=YO.n5;have hi:i<y.ns.length:=(iT.mp hn).1;obtain⟨dx,ob⟩:=YB.ob;refine⟨_,_,_,_,_,rfl,ob,Z.cl,Z.n2,kY ..,_,_,_,_,_,rfl,ob,Z.cl,Z.n2,kY ..,.inl ⟨rfl,_,cg.of YB.lo⟩,?_⟩;refine⟨_,y.ns,n,i,rfl,YB.lo,rfl,by omega,YO.nn,hn,?_⟩
 refine⟨_,_,rfl,rfl,_,_,rfl,cg.of YB.lo,fun p3 f3=>?_⟩;rw[kZ (by omega),show((i:Int)+1).toNat=i+1 by omega,<- Gv]
 have s3:=aQ f3 (HO.lst ((y.ns.drop (i+1)).map V.str));refine⟨o,p3,y.ns.drop (i+1),rfl,aC,ho,fun H4 s4=>?_⟩;have Uy:=s3.trans s4;have Rt:=s12.trans Uy;refine⟨_,_,_,_,_,rfl,Uy _ _ ob,Z.cl,Z.n4,ql ..,_,_,rfl,rP.z (Uy _ _ YB.dn) YO.nn hn (by rw[bZ]; omega) (by omega),?_⟩
 have k7:dI H4 (upd H4 a.dn (.dK (zK y.ns ((y.os.map j_).set i (j_ o))))):=dI.putD (Uy _ _ YB.dn);have f7:Fr [a.dn] H4 (upd H4 a.dn (.dK (zK y.ns ((y.os.map j_).set i (j_ o))))):=Fr.put (by simp)
 exact q _ (YA.acG (os:=y.os.set i o) (by rw[aC,v_]) ((Rt.fr _).trans f7) (Rt.kp.trans k7)) ((Rt.fr _).trans f7)
theorem F_ {H H':Hp} {a:Addr} {n:Nat} (t:Tp H a n) (s:SX a H H'):dI H H':=fun c xs z=>s.get (t.neT z) z
theorem Zf {a p:Addr} {H H':Hp} (s:SX a H H') (pa:p≠a) (h:H' p=none):H p=none:=by
 cases q:H p with
 | none=>rfl
 | some o=>rw[s.get pa q] at h; cases h
theorem M_ {zs:List (List Nat)} (h:zs.Nodup):(zs.map tx).Nodup:=by
 unfold List.Nodup;rw[List.pairwise_map];exact h.imp fun h e=>h (Vu e)
def Zi:Sp:=fun vs H Q _=>∃(a:Addr) (n:Nat),vs=[.ref a]/\Tp H a n/\n<=10000000/\∀p q tot (ts:List T3) us H',H' p=some (.tup [.int tot,.ref q])->H q=none->q≠a->H' q=some (.lst us)->aj H' (ts.map Ks) us->Ie tot ts->(∀x∈ts,Cq x.2.1)->tot<=60->Tp H' a (n+3000)->SX a H H'->Q (.ref p) H'
theorem yN:aV ["_law_tape_here","_law_many","_law_names_here","_law_rows","_law_k","_law_post_here","_law_behind","_law_least","_law_more"] ["_law_tape_here"] (aF vI):=(by walk_at "c")
theorem Lb (F:iK K "_law_yard" "_law_yard" vI f fd) (B:Bi mg) (aM:Ct P w K mg base k "_law_draw" ["_law_tape_here","_law_many"] fM) (Qs:Ct P w K mg base k "_law_post" ["_law_tape_here"] sr) (jA:Ct P w K mg base k "_law_small_post" ["_law_tape_here"] sr) (Mm:Ct P w K mg base k "_law_names" ["_law_tape_here","_law_many"] VN):bJ P w K mg base gf (k+1) f fd ["_law_tape_here"] Zi:=by
 refine F.ok yN (by rintro vs H Q E ⟨a,n,rfl,_⟩; rfl) (fun cdv A outer s H vs Q E hr h=>?_)
 obtain⟨a,n,rfl,tp,hn,q⟩:=h;have ND:=yN.nd;refine⟨_,(aq (aX (i:=1) ND rfl (by walk_at "o") (bB bA (bG (ao aA (ao aA (ao aA (ao aA (ao aA (ao aA ak))))))) (pf aM hr (ao (pv 0) (ao aA ak))) (fun _ _=>rfl))) (aq (aX (i:=2) ND rfl (by walk_at "o") (pf Mm hr (ao (pv 0) (ao (pv 1) ak)))) (aq (aX (i:=3) ND rfl (by walk_at "o") (bG ak)) (aq (gA PassesOwn.never rfl (dF (by rfl) B.range (ao (pv 1) ak)) (aJ (i:=4) ND rfl (by walk_at "o")) (aq (aX (i:=5) ND rfl (by walk_at "o") (d_ (bz gR (pf aM hr (ao (pv 0) (ao aA ak))) aA (bw _)) (pf Qs hr (ao (pv 0) ak)) (pf jA hr (ao (pv 0) ak)))) (aq (aX (i:=6) ND rfl (by walk_at "o") (aU Ba (bG (ao iI ak)) (aU Wi (cQ qM (pv 2) (dY (aU bC (pv 4) aA)) dZ) aA))) (aH (bO (g_ (K:=K) rfl PySem.F.plainAttrs_list PySem.F.slot_list_append PySem.F.type_list_append fC (pv 3) (ao (bx (ao (bB bA (pv 2) (pv 4) (fun _ _=>rfl)) (ao (pv 5) (ao (bB bA (pv 6) (pf aM hr (ao (pv 0) (ao (pb (cH (K:=K) rfl) B.len d9 (ao (pv 6) ak)) ak))) (fun _ _=>rfl)) ak)))) ak))))))) (aq (aX (i:=7) ND rfl (by walk_at "o") (pb (gb rfl) B.sum nW (ao (jr (nt:=3) (N':=["_law_name","_law_post_here","_law_onward"]) (js:=[]) rfl (bH (K:=K) rfl (pv 3)) pG.of (fun fp s' H'=>(bU (K:=K) (n:=3) rfl rfl (aK (aJ (i:=0) (by show List.Nodup (["_law_name","_law_post_here","_law_onward"]:List Str); decide) rfl (.inl (fY rfl)) (.inr (fY rfl))) (aK (aJ (i:=1) (by show List.Nodup (["_law_name","_law_post_here","_law_onward"]:List Str); decide) rfl (.inl (fY rfl)) (.inr (fY rfl))) (aK (aJ (i:=2) (by show List.Nodup (["_law_name","_law_post_here","_law_onward"]:List Str); decide) rfl (.inl (fY rfl)) (.inr (fY rfl))) bT))))) (fun fp s' H'=>ik) (fun fp s' H'=>(bB bA (bB bA (pv 1) aA (fun _ _=>rfl)) aA (fun _ _=>rfl)))) ak))) (aq (aX (i:=8) ND rfl (by walk_at "o") (bB bA (bG (ao aA (ao aA (ao (pf aM hr (ao (pv 0) (ao aA ak))) (ao (aU bC aA (pf aM hr (ao (pv 0) (ao aA ak)))) ak))))) (pf aM hr (ao (pv 0) (ao aA ak))) (fun _ _=>rfl))) (aH (a_ (bx (ao (pb (fD rfl) B.min lU (ao aA (ao (aU bC (pv 7) (pv 8)) ak))) (ao (pv 3) ak))))))))))),?_⟩
 simp only[Oa 5];walk_at "rd";refine⟨by decide,fun p1 H1 f1 s1 e1=>?_⟩
 refine b_.of (tp.same s1) (by omega) (by decide) (by decide) fun d H2 d0 d1 t2 x2=>?_
 have p1a:=tp.ne f1
 obtain⟨m,em,m1,m5⟩:∃m:Nat,Cm [V.int 1,V.int 2,V.int 3,V.int 2,V.int 4,V.int 5] d=some (.int (m:Nat))/\1<=m/\m<=5:=by
  have:d=0\/d=1\/d=2\/d=3\/d=4\/d=5:=by omega
  rcases this with rfl | rfl | rfl | rfl | rfl | rfl
  ·exact⟨1,rfl,by decide,by decide⟩
  ·exact⟨2,rfl,by decide,by decide⟩
  ·exact⟨3,rfl,by decide,by decide⟩
  ·exact⟨2,rfl,by decide,by decide⟩
  ·exact⟨4,rfl,by decide,by decide⟩
  ·exact⟨5,rfl,by decide,by decide⟩
 refine Ix.lst (x2.get p1a e1) em ?_;refine Nm.of (m:=m) rfl (by omega) t2 (by omega) fun pn zs H3 fn na lz gz ndz en t3 x3=>⟨by decide,fun pr H4 f4 s4 e4=>?_⟩
 have x12:SX a H H2:=(SX.of s1).trans x2;have x14:SX a H H4:=x12.trans (x3.trans (SX.of s4));have QR:=t3.ne f4;have f4':H pr=none:=Zf (x12.trans x3) QR f4;have fn':H pn=none:=Zf x12 na fn;have prn:pr≠pn:=fun z=>by rw[z,en] at f4; cases f4
 rw[mL];walk_at "rd";refine FK.of (n:=m) rfl (by omega) (fun i σ H'=>∃(ts:List T3) (us:List V) (o4 o5 o6:Option V),σ=[some (V.ref a),some (V.int (m:Nat)),some (V.ref pn),some (V.ref pr),o4,o5,o6,none,none]/\ts.length=i/\us.length=i/\ts.map (·.1)=(zs.take i).map tx/\(∀x∈ts,Cq x.2.1)/\(∀(j:Nat) (x:T3) z,ts[j]?=some x->x.2.2=some z->z∈(zs.map tx).drop (j+1))/\H' pn=some (.lst (zs.map fun z=>V.str (tx z)))/\H' pr=some (.lst us)/\aj H' (ts.map Ks) us/\Tp H' a (n+301+402*i)/\SX a H H')
  ⟨[],[],_,_,_,rfl,rfl,rfl,rfl,by simp,by simp,s4 _ _ en,e4,aj.nil,(t3.same s4).mono (by omega),x14⟩ ?_ ?_
 ·rintro i σ H5 hi ⟨ts,us,o4,o5,o6,rfl,lt,lu,Yh,hps,hog,en5,e5,a5,t5,x5⟩;walk_at "rd";refine uZ.of (R:=fun σ H'=>∃pv x,σ=[some (V.ref a),some (V.int (m:Nat)),some (V.ref pn),some (V.ref pr),some (.int (0+(i:Nat))),some pv,o6,none,none]/\Cq x/\At H' (dz x) pv/\Tp H' a (n+301+402*i+401)/\SX a H5 H') ?_ ?_
  ·rintro σ H6 ⟨pv,x,rfl,hx,ax,t6,x6⟩;have en6:=x6.get na en5;have e6:=x6.get QR e5;have a6:=aj.kp (F_ t5 x6) _ _ (qI _) a5;have adp:H6 pn=some (.lst ((zs.map tx).map V.str)):=by rw[xH]; exact en6
   walk_at "rd";refine⟨by decide,fun p7 H7 f7 s7 e7=>?_⟩
   refine⟨pn,_,rfl,cg.of (s7 _ _ adp),fun p8 f8=>?_⟩;rw[kZ (by omega),show(0+(i:Int)+1).toNat=i+1 by omega,<- Gv]
   have s8:=aQ f8 (HO.lst (((zs.map tx).drop (i+1)).map V.str));have ldr:((zs.map tx).drop (i+1)).length<=5:=by rw[sY,bZ]; omega
   refine⟨p8,2,_,rfl,rfl,aC,by decide,by decide,?_,fun p9 f9=>?_⟩
   ·rw[bZ];exact lK (aY (by show _*2<=1000; omega))
   have efl:(List.replicate (2:Int).toNat (((zs.map tx).drop (i+1)).map V.str)).flatten=(((zs.map tx).drop (i+1)++(zs.map tx).drop (i+1)).map some).map j_:=by
    rw[xH,gY];show((zs.map tx).drop (i+1)).map V.str++(((zs.map tx).drop (i+1)).map V.str++[])=_;rw[Di]; rfl
   rw[efl];have s9:=aQ f9 (HO.lst ((((zs.map tx).drop (i+1)++(zs.map tx).drop (i+1)).map some).map j_));have e9:upd (upd H7 p8 (.lst (((zs.map tx).drop (i+1)).map V.str))) p9 (.lst ((((zs.map tx).drop (i+1)++(zs.map tx).drop (i+1)).map some).map j_)) p9=some (.lst ((((zs.map tx).drop (i+1)++(zs.map tx).drop (i+1)).map some).map j_)):=aC;have s79:=s8.trans s9;generalize upd (upd H7 p8 (.lst (((zs.map tx).drop (i+1)).map V.str))) p9 (.lst ((((zs.map tx).drop (i+1)++(zs.map tx).drop (i+1)).map some).map j_))=H9 at s79 e9 ⊢
   obtain⟨os,eos,hos,los,l0⟩:∃os:List (Option Str),V.non::(((zs.map tx).drop (i+1)++(zs.map tx).drop (i+1)).map some).map j_=os.map j_/\(∀o∈os,∀z,o=some z->z∈(zs.map tx).drop (i+1))/\os.length<=20/\1<=os.length:=by
    refine⟨none::((zs.map tx).drop (i+1)++(zs.map tx).drop (i+1)).map some,rfl,?_,?_,by simp⟩
    ·intro o ho z hz;rcases bI.mp ho with h | h
     ·rw[h] at hz; cases hz
     ·obtain⟨z',hz',ez⟩:=du.mp h;rw[<- ez] at hz;cases hz;rcases fZ.mp hz' with h | h <;> exact h
    ·simp only[gZ,bZ,cN]; omega
   refine Gr.of (s79 _ _ e7) e9 (by simp only[gZ,vX,bZ,cN]; omega) fun pb HA fb sA eA=>?_
   rw[show[V.non]++(((zs.map tx).drop (i+1)++(zs.map tx).drop (i+1)).map some).map j_=os.map j_ from eos] at eA;have Zo:=s7.trans (s79.trans sA);have enA:=Zo _ _ en6;have eA':=Zo _ _ e6;refine⟨.inl ⟨rfl,_,cg.of eA'⟩,?_⟩;have hiz:i<zs.length:=by omega
   refine Ix.lst (v:=V.str (tx zs[i])) enA (by rw[Int.zero_add]; exact bh (j:=i) (by rw[cJ,dN hiz]; rfl)) ?_
   refine⟨pb,_,rfl,.inl (cg.of eA),?_⟩;have tA:=t6.same Zo;refine b_.of tA (by omega) (by rw[bZ]; omega) (by rw[bZ]; omega) fun d8 HB d80 d81 tB xB=>?_
   rw[bZ] at d81;have pba:pb≠a:=(t6.same (s7.trans s79)).ne fb;have hd8:d8.toNat<os.length:=by omega
   refine Ix.lst (v:=j_ os[d8.toNat]) (xB.get pba eA) (by
    have:=bh (xs:=os.map j_) (j:=d8.toNat) (v:=j_ os[d8.toNat]) (by rw[cJ,dN hd8]; rfl)
    rwa [Int.toNat_of_nonneg d80] at this) ⟨by decide,fun pc HC fc sC eC=>?_⟩
   have eB':=xB.get QR eA';have eC':=sC _ _ eB';have pca:pc≠a:=tB.ne fc;have kD:dI HC (upd HC pr (.lst (us++[.ref pc]))):=dI.putL eC';have k6D:=Zo.kp.trans ((F_ tA xB).trans (sC.kp.trans kD))
   have eD:upd HC pr (.lst (us++[.ref pc])) pc=some (.tup [V.str (tx zs[i]),pv,j_ os[d8.toNat]]):=by
    rw[aN (fun z=>by rw[z,eC'] at eC; cases eC)]; exact eC
   have x6C:SX a H6 HC:=(SX.of Zo).trans (xB.trans (SX.of sC));have a7:=aj.snoc (aj.kp k6D _ _ (qI _) a6) (show At _ (Ks (tx zs[i],x,os[d8.toNat])) (.ref pc) from At.tup eD (aj.cons (At.str _) (aj.cons (At.kp k6D _ _ (jM _) ax) (aj.cons (O8 _) aj.nil))));refine⟨pr,us,_,rfl,rfl,eC',by rw[lu]; exact aY (by omega),ts++[(tx zs[i],x,os[d8.toNat])],us++[.ref pc],_,_,_,rfl,by rw[cN,lt]; rfl,by rw[cN,lu]; rfl,?_,?_,?_,?_,aC,?_,?_,?_⟩
   ·rw[gY,Yh,cD (dN hiz),gY]; rfl
   ·intro x' hx';rcases fZ.mp hx' with h | h
    ·exact hps x' h
    ·rw[gJ.mp h]; exact hx
   ·intro j x' z h1 h2;by_cases hj:j<ts.length
    ·rw[KQ hj] at h1;exact hog j x' z h1 h2
    ·rw[Ds (by omega)] at h1
     have hj':j-ts.length=0:=by
      cases c:j-ts.length with
      | zero=>rfl
      | succ c'=>rw[c] at h1; simp at h1
     rw[hj'] at h1;cases h1;have:j=i:=by omega
     subst this;exact hos _ (nu hd8) z h2
   ·rw[aN prn.symm];exact sC _ _ (xB.get na enA)
   ·rw[gY]; exact a7
   ·exact((tB.same sC).dR QR).mono (by omega)
   ·exact(x5.trans (x6.trans x6C)).dR f4' QR
  ·intro N hN;walk_at "rd";refine b_.of t5 (by omega) (by decide) (by decide) fun d6 H6 d60 d61 t6 x6=>?_
   walk_at "rd";have pp:sr [V.ref a] H6 (fun x H1=>N [some (V.ref a),some (V.int (m:Nat)),some (V.ref pn),some (V.ref pr),some (V.int (0+(i:Nat))),some x,o6,none,none] H1) E0:=⟨a,_,rfl,t6,by omega,fun p x H7 hx ax t7 x7=>hN _ _ ⟨_,x,rfl,hx,ax.mono oG,t7,x6.trans x7⟩⟩
   exact cT (fun _=>pp) (fun _=>pp)
 ·rintro σ H5 ⟨ts,us,o4,o5,o6,rfl,lt,lu,Yh,hps,hog,en5,e5,a5,t5,x5⟩;walk_at "rd";have hlen:=a5.length;rw[bZ] at hlen;obtain⟨lD,TA⟩:=vg a5;refine oM (((ts.map (·.2.1)).map gM.lo).map .int) (rW ts lD) (jb ts lD) (fun R hR=>by walk_at "rd"; exact hR) e5 (by simp; omega) (by omega) (gB _) ?_ ?_
  ·intro j x d' H' hx hd s';have TB:=TA.mono s'.kp;refine⟨fun R hR=>wz TB hx hR,fun R hR=>?_⟩;have hj:j<ts.length:=by rw[<- hlen]; exact(iT.mp hx).1
   have et:ts[j]?=some ts[j]:=dN hj;obtain⟨vp,ev,av⟩:=TB.ap.nth (i:=j) (d:=dz ts[j].2.1) (by rw[cJ,cJ,et]; rfl)
   rw[cJ,cJ,cJ,et] at hd;cases hd;rw[iR et];walk_at "rd";rw[lC,ev];obtain⟨a0,xs0,ea0,h1,h2⟩:=bj av;obtain⟨x0,_,rfl,b0,h2⟩:=aj.aR h2;obtain⟨x1,_,rfl,b1,h2⟩:=aj.aR h2;obtain⟨x2,_,rfl,b2,h2⟩:=aj.aR h2;obtain⟨c0,cs0,rfl,g1,g2⟩:=bj b2;have:=cO (cs:=[ts[j].2.1.lo,ts[j].2.1.hi]) g2;subst this;subst ea0;refine Ix.tup h1 (bh (j:=2) rfl) (Ix.tup g1 (bh (j:=0) rfl) ?_);exact hR _ _ (aP.refl _) (At.int _)
  ·intro acc ns H6 f6 s6 e6 a6;have:=cO a6;subst this;refine⟨acc,_,rfl,.inl e6,?_⟩;refine b_.of (t5.same s6) (by omega) (by decide) (by decide) fun r1 H7 r10 r11 t7 x7=>?_
   refine b_.of t7 (by omega) (by decide) (by decide) fun r2 H8 r20 r21 t8 x8=>?_
   refine⟨_,_,rfl,rfl,by decide,fun p9 H9 f9 s9 e9=>?_⟩
   refine b_.of (t8.same s9) (by omega) (by decide) (by decide) fun r3 HA r30 r31 tA xA=>?_
   have p9a:=t8.ne f9
   obtain⟨mo,emo,mo0⟩:∃mo:Int,Cm [V.int 60,V.int 0,V.int r1,V.int (1+r2)] r3=some (.int mo)/\0<=mo:=by
    have:r3=0\/r3=1\/r3=2\/r3=3:=by omega
    rcases this with rfl | rfl | rfl | rfl
    ·exact⟨60,rfl,by decide⟩
    ·exact⟨0,rfl,by decide⟩
    ·exact⟨r1,rfl,r10⟩
    ·exact⟨1+r2,rfl,by omega⟩
   refine Ix.lst (xA.get p9a e9) emo ⟨_,_,rfl,rfl,by decide,fun pz HB fz sB eB=>?_⟩
   have x5A:SX a H5 HA:=(SX.of s6).trans (x7.trans (x8.trans ((SX.of s9).trans xA)));have x5B:=x5A.trans (SX.of sB)
   have Wx:∀(l:List T3),(∀x∈l,Cq x.2.1)->0<=((l.map (·.2.1)).map gM.lo).sum/\((l.map (·.2.1)).map gM.lo).sum<=12*l.length:=by
    intro l
    induction l with
    | nil=>intro _; simp
    | cons x l ih=>
     intro hl;obtain⟨i1,i2⟩:=ih fun z hz=>hl z (g8 _ hz);have hx:=hl x (iV ..);have:=hx.lo;have:=hx.hi;simp only[iB,vV,gZ];omega
   obtain⟨b1,b2⟩:=Wx ts hps;rw[<- lz,pY] at Yh;refine q pz pr _ ts us HB eB f4' QR (sB _ _ (x5A.get QR e5)) (aj.kp (F_ t5 x5B) _ _ (qI _) a5) ⟨by omega,by omega,?_,?_,?_,?_⟩ hps (by split <;> omega) ((tA.same sB).mono (by omega)) (x5.trans x5B)
   ·rw[Yh];exact M_ ndz
   ·intro x hx;have:x.1∈ts.map (·.1):=du.mpr ⟨x,hx,rfl⟩;rw[Yh] at this;obtain⟨z,hz,e⟩:=du.mp this;exact⟨z,e.symm,gz z hz⟩
   ·intro j x z h1 h2;rw[Yh];exact hog j x z h1 h2
   ·split <;> omega
def Ut:Sp:=fun vs H Q _=>∃(a:Addr) (n:Nat) (tot:Int) (q:Addr) (us:List V),vs=[.ref a,.int tot,.ref q]/\Tp H a n/\n<=10000000/\q≠a/\H q=some (.lst us)/\us.length<=5/\∀v H',(v=.non\/∃l zs ss,v=.ref l/\H l=none/\l≠a/\H' l=some (.lst zs)/\aj H' (List.map qL ss) zs/\ss.length=us.length/\(∀z∈ss,Mt z)/\hands ss<=tot)->Tp H' a (n+400)->SX a H H'->Q v H'
theorem ud:aV ["_law_tape_here","_law_total","_law_rows","_law_stands_here","_law_there"] ["_law_tape_here","_law_total","_law_rows"] (aF pW):=(by walk_at "c")
theorem Eg (F:iK K "_law_stands" "_law_stands" pW f fd) (B:Bi mg) (aM:Ct P w K mg base k "_law_draw" ["_law_tape_here","_law_many"] fM) (Ml:Ct P w K mg base k "_law_stand" ["_law_tape_here"] I_):bJ P w K mg base gf (k+1) f fd ["_law_tape_here","_law_total","_law_rows"] Ut:=by
 refine F.ok ud (by rintro vs H Q E ⟨a,n,tot,q,us,rfl,_⟩; rfl) (fun cdv A outer s H vs Q E hr h=>?_)
 obtain⟨a,n,tot,qa,us,rfl,tp,hn,Ou,eq',lu,q⟩:=h;have ND:=ud.nd;refine⟨_,(aq (cP (bz gR (pf aM hr (ao (pv 0) (ao aA ak))) aA (bw _)) (aH (a_ iI)) bM) (aq (Al (i:=3) ND rfl (by walk_at "o") (N':=["_law_row_here","_law_tape_here"]) (js:=[0]) rfl (bH (K:=K) rfl (pv 2)) qC.mk1 rfl (by decide) rfl (fun fp s' H'=>(pf Ml hr (ao (pv 1) ak)))) (aq (aX (i:=4) ND rfl (by walk_at "o") (pb (gb rfl) B.sum nW (ao (cV (N':=["_law_stand_here"]) (js:=[]) rfl (bH (K:=K) rfl (pv 3)) qC.U3 rfl (by decide) rfl (fun fp s' H'=>(aU bC (bB bA (pv 0) aA (fun _ _=>rfl)) (pb (gb rfl) B.sum nW (ao (bB bA (pv 0) aA (fun _ _=>rfl)) ak))))) ak))) (aH (a_ (d_ (bz Ea (pv 4) (pv 1) (bw _)) (pv 3) iI)))))),?_⟩
 walk_at "rd";refine b_.of tp (by omega) (by decide) (by decide) fun d H1 d0 d1 t1 x1=>?_
 walk_at "rd";refine cT (fun _=>q _ _ (.inl rfl) (t1.mono (by omega)) x1) (fun _=>?_)
 rw[Kr];walk_at "rd";have eq1:=x1.get Ou eq';refine LCK.inv eq1 (lK (aY (by omega))) fun acc hacc=>?_
 have Vf:=t1.ne hacc;have acq:acc≠qa:=fun z=>by rw[z,eq1] at hacc; cases hacc
 refine⟨fun i ys H'=>∃ss:List jD,ss.length=i/\ys.length=i/\(∀z∈ss,StL z)/\H' acc=some (.lst ys)/\aj H' (ss.map qL) ys/\Tp H' a (n+1+60*i)/\SX a H1 H',?_,?_,?_,?_⟩
 ·exact⟨[],rfl,rfl,by simp,aC,aj.nil,(t1.dR Vf).mono (by omega),(SX.refl a H1).dR hacc Vf⟩
 ·rintro i ys H' _ ⟨ss,_,ly,_,e,_,_,x⟩;exact⟨ly,x.get Ou eq1,e⟩
 ·rintro i x ys H2 hx ⟨ss,ls,ly,hss,e2,a2,t2,x2⟩ R hR;have hi:=(iT.mp hx).1;show mQ _ _ _ _ [some x,some (.ref a)] H2 _;walk_at "rd";refine⟨a,_,rfl,t2,by omega,fun p st H3 hst ast t3 x3=>hR _ _ (x3.get Vf e2) ?_⟩
  have e3:=x3.get Vf e2;have k3:dI H3 (upd H3 acc (.lst (ys++[.ref p]))):=dI.putL e3;refine⟨ss++[st],by rw[cN,ls]; rfl,by rw[cN,ly]; rfl,?_,aC,?_,(t3.dR Vf).mono (by omega),(x2.trans x3).dR hacc Vf⟩
  ·intro z hz;rcases fZ.mp hz with h | h
   ·exact hss z h
   ·rw[gJ.mp h]; exact hst
  ·rw[gY];exact(aj.kp ((F_ t2 x3).trans k3) _ _ (dU _) a2).snoc (At.kp k3 _ _ (qK _) (ast.mono oG))
 ·rintro ys H2 ⟨ss,ls,ly,hss,e2,a2,t2,x2⟩;refine il ((ss.map hnd).map .int) (fun R hR=>by walk_at "rd"; exact hR) e2 (by simp; omega) (by omega) (gB _) (fun i x d H' hx hd s' R hR=>?_) fun Xv vs H' f' s' e' a'=>?_
  ·rw[cJ,cJ] at hd;obtain⟨d',hd',ad⟩:=a2.get hx;rw[cJ] at hd';cases ex:ss[i]? with
   | none=>rw[ex] at hd; cases hd
   | some x'=>
    rw[ex] at hd hd';cases hd;cases hd';obtain⟨a0,xs0,rfl,h1,h2⟩:=bj (ad.mono s');obtain⟨x0,_,rfl,b0,h2⟩:=aj.aR h2;obtain⟨x1',_,rfl,b1,h2⟩:=aj.aR h2;obtain⟨x2',_,rfl,b2,h2⟩:=aj.aR h2;obtain⟨c0,cs0,rfl,g1,g2⟩:=bj b2;have:=cO (cs:=x'.cs) g2;subst this;have e1:x1'=.int x'.r:=by unfold At at b1; exact b1
    subst e1;walk_at "rd";exact Ix.tup h1 (bh (j:=1) rfl) (Ix.tup h1 (bh (j:=2) rfl) ⟨c0,x'.cs,rfl,.inr g1,_,_,rfl,rfl,hR _ _ (aP.refl _) (At.int _)⟩)
  ·have:=cO a';subst this;refine⟨Xv,_,rfl,.inl e',?_⟩;have t3:=(t2.same s').mono (m:=n+400) (by omega)
   have x3:=x1.trans (x2.trans (SX.of s'));refine cT (fun c=>q _ _ (.inr ⟨acc,ys,ss,rfl,Zf x1 Vf hacc,Vf,s' _ _ e2,a2.mono s',ls,fun z hz=>(hss z hz).n,tG c⟩) t3 x3) (fun _=>q _ _ (.inl rfl) t3 x3)
structure CmG (ns:List Str) (cs:List (Str×Int)):Prop where
 nd:(cs.map (·.1)).Nodup
 ni:∀c∈cs,c.1∈ns
 l:cs.length<=5
def VP:Sp:=fun vs H Q _=>∃(a:Addr) (n:Nat) (q:Addr) (ns:List Str),vs=[.ref a,.ref q]/\Tp H a n/\n<=10000000/\q≠a/\H q=some (.lst (ns.map V.str))/\ns.Nodup/\ns.length<=5/\∀p us cs H',H p=none->p≠a->H' p=some (.lst us)->aj H' (List.map Vd cs) us->CmG ns cs->Tp H' a (n+40)->SX a H H'->Q (.ref p) H'
theorem vD:aV ["_law_tape_here","_law_names_here","_law_great","_law_comes_here","_law_name","_law_come"] ["_law_tape_here","_law_names_here"] (aF sU):=(by walk_at "c")
theorem aj.ins {H:Hp} {d:PyData} {v:V} (h:At H d v):∀(i:Nat) {ds:List PyData} {vs:List V},aj H ds vs->aj H (ds.take i++d::ds.drop i) (vs.take i++v::vs.drop i)
 | 0,ds,vs,a=>by simpa using aj.cons h a
 | i+1,[],vs,a=>by cases aj.gk a; exact aj.cons h aj.nil
 | i+1,e::ds,vs,a=>by
  obtain⟨x,r,rfl,h1,h2⟩:=aj.aR a;exact aj.cons h1 (aj.ins h i h2)
theorem Hd (F:iK K "_law_comes" "_law_comes" sU f fd) (B:Bi mg) (aM:Ct P w K mg base k "_law_draw" ["_law_tape_here","_law_many"] fM) (eF:Ct P w K mg base k "_law_units" ["_law_tape_here"] n_):bJ P w K mg base gf (k+1) f fd ["_law_tape_here","_law_names_here"] VP:=by
 refine F.ok vD (by rintro vs H Q E ⟨a,n,q,ns,rfl,_⟩; rfl) (fun cdv A outer s H vs Q E hr h=>?_)
 obtain⟨a,n,qa,ns,rfl,tp,hn,Ou,eq',hnd,hl5,q⟩:=h;have ND:=vD.nd;refine⟨_,(aq (nD (i:=2) (j:=3) rfl ND rfl rfl (by decide) rfl rfl (ao (eQ gR (pf aM hr (ao (pv 0) (ao aA ak))) aA (bw _)) (ao (bG ak) ak)) (by rfl)) (aq (gA PassesOwn.never rfl (bH (K:=K) rfl (pv 1)) (aJ (i:=4) ND rfl (by walk_at "o")) (aH (cP (bz yX (pf aM hr (ao (pv 0) (ao aA ak))) aA (bw _)) (aq (aX (i:=5) ND rfl (by walk_at "o") (d_ (fQ (pv 2)) (pf eF hr (ao (pv 0) ak)) (pf aM hr (ao (pv 0) (ao aA ak))))) (aH (bO (g_ (K:=K) rfl PySem.F.plainAttrs_list PySem.F.slot_list_insert PySem.F.type_list_insert Hj (pv 3) (ao (pf aM hr (ao (pv 0) (ao (aU bC (pb (cH (K:=K) rfl) B.len d9 (ao (pv 3) ak)) aA) ak))) (ao (bx (ao (pv 4) (ao (pv 5) ak))) ak)))))) bM))) (aH (a_ (pv 3))))),?_⟩
 simp only[Oa 5];walk_at "rd";refine b_.of tp (by omega) (by decide) (by decide) fun d H1 d0 d1 t1 x1=>?_
 walk_at "rd";refine⟨by decide,fun p H2 f2 s2 e2=>?_⟩
 have pa:=t1.ne f2;have f0:H p=none:=Zf x1 pa f2;generalize decide (d=0)=gr;refine⟨_,_,rfl,?_⟩;rw[qG];walk_at "rd";have eq2:=s2 _ _ (x1.get Ou eq');have pq:p≠qa:=fun z=>by rw[z,x1.get Ou eq'] at f2; cases f2
 refine LK.of eq2 (fun i σ H'=>∃(us:List V) (cs:List (Str×Int)) (o4 o5:Option V),σ=[some (V.ref a),some (V.ref qa),some (V.bl gr),some (V.ref p),o4,o5]/\cs.length<=i/\us.length=cs.length/\(cs.map (·.1)).Nodup/\(∀c∈cs,c.1∈ns.take i)/\H' p=some (.lst us)/\aj H' (cs.map Vd) us/\Tp H' a (n+1+6*i)/\SX a H H'/\H' qa=some (.lst (ns.map V.str)))
  ⟨[],[],_,_,rfl,bL _,rfl,by simp,by simp,e2,aj.nil,(t1.same s2).mono (by omega),x1.trans (SX.of s2),eq2⟩ (fun i σ H' _ ⟨_,_,_,_,_,_,_,_,_,_,_,_,_,z⟩=>z) ?_ ?_
 ·rintro i x σ H3 hx ⟨us,cs,o4,o5,rfl,li,lu,nd,ni,e3,a3,t3,x3,eq3⟩;rw[cJ] at hx;cases en:ns[i]? with
  | none=>rw[en] at hx; cases hx
  | some nm=>
  rw[en] at hx;cases hx;have hi:i<ns.length:=(iT.mp en).1
  have nin:∀c∈cs,c.1≠nm:=fun c hc e=>by
   have h1:=ni c hc;rw[e] at h1;obtain⟨j,hj⟩:=GF h1;rw[List.getElem?_take] at hj;split at hj
   ·have:=Ek hnd hj en;omega
   ·cases hj
  have tk:∀c∈cs,c.1∈ns.take (i+1):=fun c hc=>by rw[cD en]; exact Ol _ (ni c hc)
  walk_at "rd";refine b_.of t3 (by omega) (by decide) (by decide) fun d4 H4 d40 d41 t4 x4=>?_
  have eq4:=x4.get Ou eq3;have e4:=x4.get pa e3;have a4:=aj.kp (F_ t3 x4) _ _ (rG _) a3;walk_at "rd";refine cT (fun _=>?_) (fun _=>⟨us,cs,_,_,rfl,by omega,lu,nd,tk,e4,a4,t4.mono (by omega),x3.trans x4,eq4⟩)
  refine uZ.of (R:=fun σ H'=>∃c:Int,σ=[some (V.ref a),some (V.ref qa),some (V.bl gr),some (V.ref p),some (V.str nm),some (.int c)]/\Tp H' a (n+1+6*i+5)/\SX a H4 H') ?_ ?_
  ·rintro σ H5 ⟨c,rfl,t5,x5⟩;have e5:=x5.get pa e4;have eq5:=x5.get Ou eq4;have a5:=aj.kp (F_ t4 x5) _ _ (rG _) a4;walk_at "rd";refine⟨.inl ⟨rfl,_,cg.of e5⟩,⟨p,us,rfl,.inl (cg.of e5),?_⟩⟩;refine⟨_,_,rfl,rfl,?_⟩;refine b_.of t5 (by omega) (by omega) (by omega) fun d6 H6 d60 d61 t6 x6=>⟨by decide,fun p7 H7 f7 s7 e7=>?_⟩
   have e6:=x6.get pa e5;have e7':=s7 _ _ e6;refine⟨p,us,d6,d6.toNat,.ref p7,rfl,rfl,by omega,e7',by omega,by omega,?_⟩
   have k8:dI H7 (upd H7 p (.lst (us.take d6.toNat++V.ref p7::us.drop d6.toNat))):=dI.putL e7';have k58:=(F_ t5 x6).trans (s7.kp.trans k8);have ap7:At (upd H7 p (.lst (us.take d6.toNat++V.ref p7::us.drop d6.toNat))) (Vd (nm,c)) (.ref p7):=At.tup (k8 _ _ e7) (aj.cons (At.str _) (aj.cons (At.int _) aj.nil));refine⟨_,cs.take d6.toNat++(nm,c)::cs.drop d6.toNat,_,_,rfl,?_,?_,?_,?_,aC,?_,?_,?_,?_⟩
   ·simp only[cN,mD,gZ,sY]; omega
   ·simp only[cN,mD,gZ,sY]; omega
   ·rw[gY,iB,List.map_take,Gv,pZ];have tn:=List.take_append_drop d6.toNat (cs.map (·.1));rw[<- tn,pZ] at nd;obtain⟨n1,n2,n3⟩:=nd;have nm1:nm∉cs.map (·.1):=fun z=>by obtain⟨c',hc',e⟩:=du.mp z; exact nin c' hc' e
    refine⟨n1,jm.mpr ⟨fun z=>nm1 (GJ z),n2⟩,fun u hu v hv=>?_⟩;rcases bI.mp hv with h | h
    ·exact fun e=>nm1 (by have:=vZ hu; rw[e,h] at this; exact this)
    ·exact n3 u hu v h
   ·intro c' hc';rcases fZ.mp hc' with h | h
    ·exact tk c' (vZ h)
    ·rcases bI.mp h with h | h
     ·rw[h,cD en]; exact iG _ (by simp)
     ·exact tk c' (GJ h)
   ·rw[gY,iB,List.map_take,Gv];exact aj.ins ap7 _ (aj.kp k58 _ _ (rG _) a5)
   ·exact((t6.same s7).dR pa).mono (by omega)
   ·exact(x3.trans (x4.trans (x5.trans (x6.trans (SX.of s7))))).dR f0 pa
   ·rw[aN (Ne.symm pq)];exact s7 _ _ (x6.get Ou eq5)
  ·intro N hN;walk_at "rd";refine cT (fun _=>⟨a,_,rfl,t4,by omega,fun v H5 _ _ t5 x5=>hN _ _ ⟨v,rfl,t5.mono (by omega),x5⟩⟩) (fun _=>b_.of t4 (by omega) (by decide) (by decide) fun v H5 _ _ t5 x5=>hN _ _ ⟨v,rfl,t5.mono (by omega),x5⟩)
 ·rintro σ H3 ⟨us,cs,o4,o5,rfl,li,lu,nd,ni,e3,a3,t3,x3,eq3⟩;walk_at "rd";rw[bZ] at li ni t3;exact q p us cs H3 f0 pa e3 a3 ⟨nd,fun c hc=>vZ (ni c hc),by omega⟩ (t3.mono (by omega)) x3
theorem Qy {y:Yd} {cs:List (Str×Int)} (YO:cW y) (h:y.pa.length<500):cW (uM y cs):=by
 have R:=uO (cm:=uU y.ns cs) YO (bL _);have F:=fW y (uU y.ns cs) y.ns.length;have e:uM y cs={ (dJ y (uU y.ns cs) y.ns.length).1 with pa:=y.pa++[Fe y cs] }:=rfl
 rw[e];have l:=F.r;refine { R with pn:=by show(y.pa++[Fe y cs]).length<=500; rw[cN]; simp; omega,pl:=fun r hr=>?_ }
 rcases fZ.mp hr with z | z
 ·exact YO.pl r z
 ·rw[gJ.mp z];have:=YO.n5;show(dJ y (uU y.ns cs) y.ns.length).2.2.length<=5;omega
theorem JC {H:Hp} {ds:List PyData} {v:V} (h:At H (.list ds) v):∃a xs,v=.ref a/\H a=some (.lst xs)/\aj H ds xs:=by unfold At at h; exact h
def SD:Nat->PyData->Prop
 | 0,_=>False
 | n+1,d=>(∃i,d=.int i)\/d=.none\/(∃t,d=.str t/\PyData.canLay0 (.str t)=true)\/(∃ds,d=.tuple ds/\ds.length<=1000/\∀e∈ds,SD n e)\/∃ds,d=.list ds/\ds.length<=1000/\∀e∈ds,SD n e
theorem SD.int {n:Nat} (i:Int):SD (n+1) (.int i):=.inl ⟨i,rfl⟩
theorem SD.none {n:Nat}:SD (n+1) .none:=.inr (.inl rfl)
theorem SD.str {n:Nat} {t:Str} (h:PyData.canLay0 (.str t)=true):SD (n+1) (.str t):=.inr (.inr (.inl ⟨t,rfl,h⟩))
theorem SD.tup {n:Nat} {ds:List PyData} (h:ds.length<=1000) (ha:∀e∈ds,SD n e):SD (n+1) (.tuple ds):=.inr (.inr (.inr (.inl ⟨ds,rfl,h,ha⟩)))
theorem SD.lst {n:Nat} {ds:List PyData} (h:ds.length<=1000) (ha:∀e∈ds,SD n e):SD (n+1) (.list ds):=.inr (.inr (.inr (.inr ⟨ds,rfl,h,ha⟩)))
theorem SD.ints {n:Nat} {l:List Int} (h:l.length<=1000):SD (n+2) (.tuple (l.map .int)):=SD.tup (by rw[bZ]; exact h) fun e he=>by obtain⟨i,_,rfl⟩:=du.mp he; exact SD.int i
theorem SD.stn {n:Nat} {st:jD} (h:Fj st):SD (n+4) (qL st):=SD.tup (by show 6<=1000; decide) fun e he=>by
 simp only[bI,dD,or_false] at he;rcases he with rfl | rfl | rfl | rfl | rfl | rfl
 ·exact SD.int _
 ·exact SD.int _
 ·exact SD.ints (by rw[h.c]; decide)
 ·exact SD.int _
 ·exact SD.int _
 ·exact SD.tup (by rw[bZ,h.u]; decide) fun e he=>by
   obtain⟨u,hu,rfl⟩:=du.mp he;exact SD.ints (by rw[h.l u hu]; decide)
theorem SD.data:∀(n:Nat) (d:PyData),SD n d->PyData.hasDict d=false/\PyData.canLay0 d=true/\PyData.depth d<=n
 | 0,_,h=>h.elim
 | n+1,d,h=>by
  have all:∀ds:List PyData,(∀e∈ds,SD n e)->PyData.hasDictAll ds=false/\PyData.canLayAll0 ds=true/\PyData.depthAll ds<=n:=fun ds=>by
   induction ds with
   | nil=>exact fun _=>⟨rfl,rfl,gw _⟩
   | cons e r ih=>
    intro ha;obtain⟨h1,h2,h3⟩:=ih fun e he=>ha e (g8 _ he);obtain⟨k1,k2,k3⟩:=SD.data n e (ha e iV);refine⟨?_,?_,?_⟩
    ·unfold PyData.hasDictAll; rw[k1,h1]; rfl
    ·unfold PyData.canLayAll0; rw[k2,h2]; rfl
    ·unfold PyData.depthAll; exact Nat.max_le.mpr ⟨k3,h3⟩
  rcases h with⟨i,rfl⟩ | rfl | ⟨t,rfl,hc⟩ | ⟨ds,rfl,hn,hds⟩ | ⟨ds,rfl,hn,hds⟩
  ·exact⟨rfl,rfl,gw _⟩
  ·exact⟨rfl,rfl,gw _⟩
  ·exact⟨rfl,hc,gw _⟩
  ·obtain⟨h1,h2,h3⟩:=all ds hds;exact⟨by unfold PyData.hasDict; exact h1,by unfold PyData.canLay0; exact h2,by unfold PyData.depth; omega⟩
  ·obtain⟨h1,h2,h3⟩:=all ds hds;exact⟨by unfold PyData.hasDict; exact h1,by unfold PyData.canLay0; exact h2,by unfold PyData.depth; omega⟩
def Rp (n:Nat):Sp:=fun vs H Q _=>∃(v u:V) (d:PyData),vs=[v,u]/\At H d v/\At H d u/\SD n d/\n<=60/\∀H',aP H H'->Q (.bl true) H'
theorem su:aV ["_law_found","_law_due"] ["_law_found","_law_due"] (aF qQ):=(by walk_at "c")
theorem Ha (F:iK K "_law_same" "_law_same" qQ f fd):bJ P w K mg base gf (k+1) f fd ["_law_found","_law_due"] (Rp 0):=by
 refine F.ok su (by rintro vs H Q E ⟨v,u,d,rfl,_⟩; rfl) (fun cdv A outer s H vs Q E hr h=>?_)
 obtain⟨v,u,d,rfl,_,_,h,_⟩:=h;exact h.elim
theorem qw {G:Hp}:∀{bs:List Bool} {xs:List V},aj G (bs.map PyData.bool) xs->xs=bs.map V.bl
 | [],xs,h=>by unfold aj at h; exact h
 | b::bs,xs,h=>by
  obtain⟨x,r,rfl,h1,h2⟩:=aj.aR (d:=PyData.bool b) (ds:=bs.map PyData.bool) h;unfold At at h1;rw[h1,qw h2]; rfl
theorem iZ (n:Nat) (F:iK K "_law_same" "_law_same" qQ f fd) (B:Bi mg) (lA:Ct P w K mg base k "_law_same" ["_law_found","_law_due"] (Rp n)):bJ P w K mg base gf (k+1) f fd ["_law_found","_law_due"] (Rp (n+1)):=by
 refine F.ok su (by rintro vs H Q E ⟨v,u,d,rfl,_⟩; rfl) (fun cdv A outer s H vs Q E hr h=>?_)
 obtain⟨v,u,d,rfl,hv,hu,hd,ahj,q⟩:=h;have ND:=su.nd;refine⟨_,(aq (cP (fQ (pb WX B.isinstance bW (ao (pv 1) (ao (bx (ao (pty (by rfl) B.list jQ) (ao (pty (by rfl) B.tuple gH) ak))) ak)))) (aq (cP (PW.pt (ug (bz Jw (pb JP B.isinstance bW (ao (pv 0) (ao (pty (by rfl) B.list jQ) ak))) (pb JP B.isinstance bW (ao (pv 1) (ao (pty (by rfl) B.list jQ) ak))) (bw _)) (nA (bz Jw (pb JN B.isinstance bW (ao (pv 0) (ao (pty (by rfl) B.tuple gH) ak))) (pb JN B.isinstance bW (ao (pv 1) (ao (pty (by rfl) B.tuple gH) ak))) (bw _))))) (aH (a_ uh)) bM) (aH (a_ (wu (eQ gR (pb (cH (K:=K) rfl) B.len d9 (ao (pv 0) ak)) (pb (cH (K:=K) rfl) B.len d9 (ao (pv 1) ak)) (bw _)) (GZ (pb (lq rfl) B.all xr (ao (jr (nt:=2) (N':=["_law_one","_law_other"]) (js:=[]) rfl (RW (K:=K) rfl B.zip (ao (pv 0) (ao (pv 1) ak))) pG.of (fun fp s' H'=>(bU (K:=K) (n:=2) rfl rfl (aK (aJ (i:=0) (by show List.Nodup (["_law_one","_law_other"]:List Str); decide) rfl (.inl (fY rfl)) (.inr (fY rfl))) (aK (aJ (i:=1) (by show List.Nodup (["_law_one","_law_other"]:List Str); decide) rfl (.inl (fY rfl)) (.inr (fY rfl))) bT)))) (fun fp s' H'=>ik) (fun fp s' H'=>(pf lA hr (ao (pv 0) (ao (pv 1) ak))))) ak))))))) bM) (aq (cP (PW.pt (ug (bz A_ (pv 1) iI (bw _)) (nA (fQ (pb uR B.isinstance bW (ao (pv 1) (ao (pty (by rfl) B.str Ci) ak))))))) (aH (a_ (wu (eQ gR (eQ A_ (pv 0) iI (bw _)) (eQ A_ (pv 1) iI (bw _)) (bw _)) (wu (eQ gR (pb uR B.isinstance bW (ao (pv 0) (ao (pty (by rfl) B.str Ci) ak))) (pb uR B.isinstance bW (ao (pv 1) (ao (pty (by rfl) B.str Ci) ak))) (bw _)) (GZ (eQ (O6 hr.units) (pv 0) (pv 1) (bw _))))))) bM) (aH (a_ (wu (pb S_ B.isinstance bW (ao (pv 0) (ao (pty (by rfl) B.int Ia) ak))) (wu (Wf (pb Pu B.isinstance bW (ao (pv 0) (ao (pty (by rfl) B.bool TY) ak)))) (GZ (eQ (O6 hr.units) (pv 0) (pv 1) (bw _))))))))),?_⟩
 walk_at "rd";refine⟨(by decide),fun pt H1 f1 s1 e1=>?_⟩
 refine⟨_,d,pt,rfl,hu.mono s1,e1,?_⟩;have hv1:=hv.mono s1;have hu1:=hu.mono s1;obtain⟨D1,D2,D3⟩:=SD.data _ _ hd;rcases hd with⟨i,rfl⟩ | rfl | ⟨t,rfl,hc⟩ | ⟨ds,rfl,hn,hds⟩ | ⟨ds,rfl,hn,hds⟩
 ·have eu:u=.int i:=by unfold At at hu; exact hu
  subst eu;rw[aZ (by exact fun z=>by cases z)]
  refine⟨trivial,?_⟩;rw[aZ (by rw[decide_eq_true_eq]; exact fun z=>by cases z)]
  refine Fx.of hu1 ⟨_,rfl,?_⟩;rw[aZ (by exact fun z=>by cases z)]
  refine Fx.of hv1 ⟨_,rfl,?_⟩;rw[bu (by rfl)]
  refine Fx.of hv1 ⟨_,rfl,?_⟩;rw[bu (by rfl)]
  refine⟨_,_,hv1,hu1,rfl,rfl,rfl,rfl,by show 0<=60; decide,?_⟩
  rw[SeqAt.eqv_refl _ D2];exact q H1 s1
 ·have eu:u=.non:=by unfold At at hu; exact hu
  have ev:v=.non:=by unfold At at hv; exact hv
  subst eu ev;rw[aZ (by exact fun z=>by cases z)]
  refine⟨trivial,?_⟩;rw[bu (by rw[decide_eq_true_eq])]
  refine⟨trivial,trivial,rfl,_,rfl,?_⟩;rw[bu (by rw[decide_eq_true_eq])]
  refine Fx.of hv1 (Fx.of hu1 ⟨rfl,_,rfl,?_⟩);rw[bu (by rw[decide_eq_true_eq])]
  refine⟨_,_,hv1,hu1,D1,D1,D2,D2,by omega,?_⟩
  rw[SeqAt.eqv_refl _ D2];exact q H1 s1
 ·have eu:u=.str t:=by unfold At at hu; exact hu
  have ev:v=.str t:=by unfold At at hv; exact hv
  subst eu ev;rw[aZ (by exact fun z=>by cases z)]
  refine⟨trivial,?_⟩;rw[aZ (by rw[decide_eq_true_eq]; exact fun z=>by cases z)]
  refine Fx.of hu1 ⟨_,rfl,?_⟩;rw[bu (by rfl)]
  refine⟨trivial,trivial,rfl,_,rfl,?_⟩;rw[bu (by rw[decide_eq_true_eq])]
  refine Fx.of hv1 (Fx.of hu1 ⟨rfl,_,rfl,?_⟩);rw[bu (by rw[decide_eq_true_eq])]
  refine⟨_,_,hv1,hu1,D1,D1,D2,D2,by omega,?_⟩
  rw[SeqAt.eqv_refl _ D2];exact q H1 s1
 ·rw[bu (by rfl)]
  refine Fx.of hv1 (Fx.of hu1 ⟨rfl,_,rfl,?_⟩);rw[aZ (by show ¬((!decide (V.bl false=V.bl false))=true); decide)]
  refine Fx.of hv1 (Fx.of hu1 ⟨rfl,_,rfl,?_⟩);rw[aZ (by show ¬((!decide (V.bl true=V.bl true))=true); decide)]
  obtain⟨a,xs,rfl,ha,hxs⟩:=bj hv1;obtain⟨b,ys,rfl,hb,hys⟩:=bj hu1;have lx:xs.length=ds.length:=hxs.length;have ly:ys.length=ds.length:=hys.length;refine⟨a,xs,rfl,.inr (e_.of ha),b,ys,rfl,.inr (e_.of hb),?_⟩;rw[lx,ly];refine⟨rfl,_,rfl,?_⟩;rw[bu (by rw[decide_eq_true_eq])]
  rw[yK];refine .inl ?_;refine zN (es:=(ds.map fun _=>true).map PyData.bool) (fun R hR=>?_) ha hb (by simp; omega) (by simp; omega) (by simp only[bZ]; exact lK (aY (by omega))) (bf.mpr fun d hd=>by obtain⟨z,_,rfl⟩:=du.mp hd; rfl) (fun j x y e H' hx hy he s' R hR=>?_) (fun acc zs H' s' hacc hl hA=>?_)
  ·walk_at "rd"; exact hR
  ·obtain⟨d1,e1,a1⟩:=hxs.get hx;obtain⟨d2,e2,a2⟩:=hys.get hy;rw[e1] at e2;cases e2;rw[cJ,cJ,e1] at he;cases he;walk_at "rd";exact⟨x,y,d1,rfl,a1.mono s',a2.mono s',hds _ (dM e1),by omega,fun dC s''=>hR _ _ s'' (At.bool _)⟩
  ·cases qw hA;refine⟨acc,_,rfl,hl,?_⟩;rw[show(ds.map fun _=>true).all id=true by simp]
   exact q H' (s1.trans s')
 ·rw[bu (by rfl)]
  refine Fx.of hv1 (Fx.of hu1 ⟨rfl,_,rfl,?_⟩);rw[aZ (by show ¬((!decide (V.bl true=V.bl true))=true); decide)]
  refine Fx.of hv1 (Fx.of hu1 ⟨rfl,_,rfl,?_⟩);rw[aZ (by show ¬((!decide (V.bl false=V.bl false))=true); decide)]
  obtain⟨a,xs,rfl,ha,hxs⟩:=JC hv1;obtain⟨b,ys,rfl,hb,hys⟩:=JC hu1;have lx:xs.length=ds.length:=hxs.length;have ly:ys.length=ds.length:=hys.length;refine⟨a,xs,rfl,.inl (cg.of ha),b,ys,rfl,.inl (cg.of hb),?_⟩;rw[lx,ly];refine⟨rfl,_,rfl,?_⟩;rw[bu (by rw[decide_eq_true_eq])]
  rw[yK];refine .inr ?_;refine Mg (es:=(ds.map fun _=>true).map PyData.bool) (fun R hR=>?_) ha hb (by simp; omega) (by simp; omega) (by simp only[bZ]; exact lK (aY (by omega))) (bf.mpr fun d hd=>by obtain⟨z,_,rfl⟩:=du.mp hd; rfl) (fun j x y e H' hx hy he s' R hR=>?_) (fun acc zs H' s' hacc hl hA=>?_)
  ·walk_at "rd"; exact hR
  ·obtain⟨d1,e1,a1⟩:=hxs.get hx;obtain⟨d2,e2,a2⟩:=hys.get hy;rw[e1] at e2;cases e2;rw[cJ,cJ,e1] at he;cases he;walk_at "rd";exact⟨x,y,d1,rfl,a1.mono s',a2.mono s',hds _ (dM e1),by omega,fun dC s''=>hR _ _ s'' (At.bool _)⟩
  ·cases qw hA;refine⟨acc,_,rfl,hl,?_⟩;rw[show(ds.map fun _=>true).all id=true by simp]
   exact q H' (s1.trans s')
theorem Nv {l:List Nat} (h:∀c∈l,c<128):PyData.strOk (tx l)=true:=by
 show l.toArray.all (· < 0x110000)=true;simp only[List.all_toArray,oX,decide_eq_true_eq];intro c hc;have:=h c hc;omega
theorem SD.mono:∀{n m:Nat} {d:PyData},SD n d->n<=m->SD m d
 | 0,_,_,h,_=>h.elim
 | n+1,0,_,_,l=>by omega
 | n+1,m+1,d,h,l=>by
  rcases h with h | h | h | ⟨ds,rfl,l1,h⟩ | ⟨ds,rfl,l1,h⟩
  ·exact .inl h
  ·exact .inr (.inl h)
  ·exact .inr (.inr (.inl h))
  ·exact SD.tup l1 fun e he=>SD.mono (h e he) (by omega)
  ·exact SD.lst l1 fun e he=>SD.mono (h e he) (by omega)
theorem SD.row {r:jG} (h:QG r):SD 2 (xG r):=SD.tup (by show 5<=1000; decide) fun e he=>by
 have hw:=h.is.w;have hg:=h.g;simp only[bI,dD,or_false] at he hw hg;rcases he with rfl | rfl | rfl | rfl | rfl
 ·exact SD.str (by rcases hw with e | e | e <;> rw[e] <;> kernel_rfl)
 ·exact SD.int _
 ·exact SD.str (by rcases hg with e | e | e <;> rw[e] <;> kernel_rfl)
 ·exact SD.int _
 ·exact SD.int _
theorem SD.pst {x:gM} (h:Cq x):SD 5 (dz x):=SD.tup (by show 7<=1000; decide) fun e he=>by
 simp only[bI,dD,or_false] at he;rcases he with rfl | rfl | rfl | rfl | rfl | rfl | rfl
 ·exact SD.int _
 ·exact SD.int _
 ·exact SD.ints (l:=[x.lo,x.hi]) (by show 2<=1000; decide)
 ·exact SD.int _
 ·exact SD.int _
 ·exact SD.ints (l:=[x.u,x.d]) (by show 2<=1000; decide)
 ·refine SD.tup (by rw[bZ]; have:=h.n; omega) fun e he=>?_
  obtain⟨rs,hrs,rfl⟩:=du.mp he;have hr:=h.r rs hrs;refine SD.tup (by rw[bZ]; have:=hr.hi; omega) fun e he=>?_
  obtain⟨r,hr',rfl⟩:=du.mp he;exact SD.row (hr.g r hr')
theorem SD.on {o:Option Str} (h:∀z,o=some z->PyData.strOk z=true):SD 1 (Ec o):=by
 cases o with
 | none=>exact SD.none
 | some z=>exact SD.str (h z rfl)
theorem cW.str {y:Yd} (h:cW y) {n:Str} (hn:n∈y.ns):PyData.strOk n=true:=by
 obtain⟨cs,rfl,hc⟩:=h.ng n hn;exact Nv fun c hc'=>by have:=(hc.g c hc').2; omega
theorem cW.onS {y:Yd} (h:cW y) {i:Nat} {o:Option Str} (ho:y.os[i]?=some o):∀z,o=some z->PyData.strOk z=true:=fun z e=>by
 subst e;exact h.str (GJ (h.og i z ho))
def Gd (z:gM×Option Str×jD):PyData:=.tuple [dz z.1,Ec z.2.1,qL z.2.2]
def jd (y:Yd):List PyData:=.int (hands y.ss)::(y.ps.zip (y.os.zip y.ss)).map Gd
theorem C_ {y:Yd} (YO:cW y):SD 7 (.list (jd y)):=by
 have l1:=YO.lp;have l5:=YO.n5;refine SD.lst (by unfold jd; rw[gZ,bZ,vY]; omega) fun e he=>?_
 rcases bI.mp he with h | h
 ·rw[h]; exact SD.int _
 ·obtain⟨z,hz,rfl⟩:=du.mp h;obtain⟨i,hi⟩:=GF hz;obtain⟨i1,i2⟩:=Dr.mp hi;obtain⟨i3,i4⟩:=Dr.mp i2;refine SD.tup (by show 3<=1000; decide) fun e he=>?_
  simp only[bI,dD,or_false] at he;rcases he with rfl | rfl | rfl
  ·exact SD.pst (YO.pg _ (dM i1))
  ·exact SD.mono (SD.on (YO.onS i3)) (by decide)
  ·exact SD.stn (n:=1) (YO.sg _ (dM i4)).is
def Uu (C:Addr):Sp:=fun vs H Q _=>∃(a:Ya) (y:Yd) (q:Addr),vs=[.ref a.p,.ref q]/\bD C H a y/\cW y/\H q=some (.lst (y.ns.map V.str))/\∀p H',H p=none->aP H H'->At H' (.list (jd y)) (.ref p)->Q (.ref p) H'
theorem vy:aV ["_law_yard_here","_law_names_here"] ["_law_yard_here","_law_names_here"] (aF sG):=(by walk_at "c")
theorem G9 {C:Addr} (F:iK K "_law_stood" "_law_stood" sG f fd) (B:Bi mg) (Z:ZY K C) (eO:rT P w K mg base k C "hands" ["self"] (VJ C)) (fJ:rT P w K mg base k C "post" ["self","name"] (mU C gP)) (dH:rT P w K mg base k C "onward" ["self","name"] (mU C gO)) (eN:rT P w K mg base k C "stand" ["self","name"] (mU C gS)):bJ P w K mg base gf (k+1) f fd ["_law_yard_here","_law_names_here"] (Uu C):=by
 refine F.ok vy (by rintro vs H Q E ⟨a,y,q,rfl,_⟩; rfl) (fun cdv A outer s H vs Q E hr h=>?_)
 obtain⟨a,y,qa,rfl,YA,YO,eq',q⟩:=h;have ND:=vy.nd;refine⟨_,(aH (a_ (aU Ba (bG (ao (V9 eO hr (pv 0)) ak)) (cV (N':=["_law_name","_law_yard_here"]) (js:=[0]) rfl (bH (K:=K) rfl (pv 1)) qC.mk1 rfl (by decide) rfl (fun fp s' H'=>(bx (ao (pm fJ hr (pv 1) (ao (pv 0) ak)) (ao (pm dH hr (pv 1) (ao (pv 0) ak)) (ao (pm eN hr (pv 1) (ao (pv 0) ak)) ak))))))))),?_⟩
 walk_at "rd";refine Me.of (m:="hands") (R:=fun p=>_) YA (fun _ _ _ _ _ _ _=>rfl) ?_;refine⟨a,y,rfl,YA,YO,fun H1 s1=>⟨by decide,fun p2 H2 f2 s2 e2=>?_⟩⟩
 have s12:=s1.trans s2;have l1:=YO.lp;have l2:=YO.lo;have l3:=YO.ls;have l5:=YO.n5
 refine il ((y.ps.zip (y.os.zip y.ss)).map Gd) (fun R hR=>by walk_at "rd"; exact hR) (s12 _ _ eq') (by simp only[bZ,vY]; omega) (by rw[bZ]; omega) (bf.mpr fun d hd=>by
  obtain⟨z,_,rfl⟩:=du.mp hd;unfold Gd
  simp[tL,bK,jM,G6,qK]) (fun i x d H' hx hd s' R hR=>?_) fun acc us H' f' s' e' a'=>?_
 ·rw[cJ] at hx;cases et:y.ns[i]? with
  | none=>rw[et] at hx; cases hx
  | some n=>
  rw[et] at hx;cases hx;show Iu _ [some (.str n),some (.ref a.p)] H' _;walk_at "rd";have YB:=YA.mono (s12.trans s');have hi:i<y.ns.length:=(iT.mp et).1;have ep:y.ps[i]?=some y.ps[i]:=dN (by omega)
  have eo:y.os[i]?=some y.os[i]:=dN (by omega)
  have es:y.ss[i]?=some y.ss[i]:=dN (by omega)
  have er:(y.ps.zip (y.os.zip y.ss))[i]?=some (y.ps[i],y.os[i],y.ss[i]):=by
   rw[Dr,Dr];exact⟨ep,eo,es⟩
  rw[cJ,er] at hd;cases hd;refine Me.of (m:="post") (R:=fun p=>_) YB (fun _ _ _ _ _ _ _=>rfl) ?_;refine⟨a,y,i,n,dz y.ps[i],rfl,YB,YO,et,by show(y.ps.map dz)[i]?=_; rw[cJ,ep]; rfl,fun v3 H3 s3 a3=>?_⟩
  refine Me.of (m:="onward") (R:=fun p=>_) (YB.mono s3) (fun _ _ _ _ _ _ _=>rfl) ?_;refine⟨a,y,i,n,Ec y.os[i],rfl,YB.mono s3,YO,et,by show(y.os.map Ec)[i]?=_; rw[cJ,eo]; rfl,fun v4 H4 s4 a4=>?_⟩
  refine Me.of (m:="stand") (R:=fun p=>_) ((YB.mono s3).mono s4) (fun _ _ _ _ _ _ _=>rfl) ?_;refine⟨a,y,i,n,qL y.ss[i],rfl,(YB.mono s3).mono s4,YO,et,by show(y.ss.map qL)[i]?=_; rw[cJ,es]; rfl,fun v5 H5 s5 a5=>⟨by decide,fun p6 H6 f6 s6 e6=>?_⟩⟩
  exact hR _ _ (s3.trans (s4.trans (s5.trans s6))) (At.tup e6 (aj.cons (a3.mono (s4.trans (s5.trans s6))) (aj.cons (a4.mono (s5.trans s6)) (aj.cons (a5.mono s6) aj.nil))))
 ·have la:=a'.length;rw[bZ,vY] at la;refine Gr.of (s' _ _ e2) e' (by simp; omega) fun p5 H5 f5 s5 e5=>?_
  have sA:=s12.trans (s'.trans s5);refine q p5 H5 ?_ sA ?_
  ·cases q':H p5 with
   | none=>rfl
   | some o=>rw[(s12.trans s') _ _ q'] at f5; cases f5
  ·unfold At;exact⟨p5,_,rfl,e5,aj.cons (At.int _) (a'.mono s5)⟩
theorem Ov {H:Hp} {x:gM} {v:V} (h:At H (dz x) v):∃a b c d,v=.ref a/\H a=some (.tup [.int x.p,.int x.m,.ref b,.int x.a,.int x.e,.ref c,.ref d])/\H b=some (.tup [.int x.lo,.int x.hi])/\At H (.tuple [.int x.u,.int x.d]) (.ref c)/\At H (vO x.jl) (.ref d):=by
 obtain⟨a,xs,rfl,h1,h2⟩:=bj h;obtain⟨x0,_,rfl,b0,h2⟩:=aj.aR h2;obtain⟨x1,_,rfl,b1,h2⟩:=aj.aR h2;obtain⟨x2,_,rfl,b2,h2⟩:=aj.aR h2;obtain⟨x3,_,rfl,b3,h2⟩:=aj.aR h2;obtain⟨x4,_,rfl,b4,h2⟩:=aj.aR h2;obtain⟨x5,_,rfl,b5,h2⟩:=aj.aR h2;obtain⟨x6,_,rfl,b6,h2⟩:=aj.aR h2;cases aj.gk h2;unfold At at b0 b1 b3 b4;subst b0 b1 b3 b4;obtain⟨b,ys,rfl,g1,g2⟩:=bj b2;obtain⟨c,zs,rfl,_,_⟩:=bj b5;obtain⟨d,ws,rfl,_,_⟩:=bj b6;obtain⟨y0,_,rfl,k0,g2⟩:=aj.aR g2;obtain⟨y1,_,rfl,k1,g2⟩:=aj.aR g2;cases aj.gk g2;unfold At at k0 k1;subst k0 k1;exact⟨a,b,c,d,rfl,h1,g1,b5,b6⟩
def Yl (ns:List Str) (op:Yd->Yd):Prop:=op=(fun y=>y)\/(∃(i:Nat) (x:gM),i<ns.length/\Cq x/\x.lo=0/\op=fun y=>{ y with ps:=y.ps.set i x })\/∃(i:Nat) (o:Option Str),i<ns.length/\(∀z,o=some z->z∈ns.drop (i+1))/\op=fun y=>{ y with os:=y.os.set i o }
structure yz (C:Addr) (H:Hp) (zs:List (Ya×Yd)):Prop where
 at_:∀z∈zs,bD C H z.1 z.2
 dj:∀(i j:Nat) (z z':Ya×Yd),zs[i]?=some z->zs[j]?=some z'->i≠j->∀c∈z.1.own,c∉z'.1.own
def GQ (zs:List (Ya×Yd)):List Addr:=zs.flatMap fun z=>[z.1.dp,z.1.dn]
theorem N_ {ps:List gM} {i:Nat} {x:gM} (h0:x.lo=0) (hp:∀z∈ps,Cq z):((ps.set i x).map gM.lo).sum<=(ps.map gM.lo).sum:=by
 induction ps generalizing i with
 | nil=>simp
 | cons p ps ih=>
  have hp':=hp p (iV ..);have:=hp'.lo;cases i with
  | zero=>simp only[Jl,iB,vV]; omega
  | succ i=>
   have:=ih (i:=i) fun z hz=>hp z (g8 _ hz);simp only[DW,iB,vV];omega
theorem Yl.ok {ns:List Str} {op:Yd->Yd} (h:Yl ns op) {y:Yd} (YO:cW y) (e:y.ns=ns):cW (op y)/\(op y).ns=ns/\(op y).ss=y.ss/\(op y).ts=y.ts/\(op y).pa=y.pa/\(op y).tot=y.tot:=by
 subst e;rcases h with rfl | ⟨i,x,hi,hx,h0,rfl⟩ | ⟨i,o,hi,ho,rfl⟩
 ·exact⟨YO,rfl,rfl,rfl,rfl,rfl⟩
 ·refine⟨{ YO with lp:=by show(y.ps.set i x).length=_; rw[Gw]; exact YO.lp,pg:=fun z hz=>?_,lm:=?_ },rfl,rfl,rfl,rfl,rfl⟩
  ·rcases RN hz with h | h
   ·exact YO.pg z h
   ·rw[h]; exact hx
  ·have:=N_ (i:=i) h0 YO.pg;have:=YO.lm;show((y.ps.set i x).map gM.lo).sum<=y.tot;omega
 ·refine⟨{ YO with lo:=by show(y.os.set i o).length=_; rw[Gw]; exact YO.lo,og:=fun j z hz=>?_ },rfl,rfl,rfl,rfl,rfl⟩
  replace hz:(y.os.set i o)[j]?=some (some z):=hz
  rw[KH] at hz;split at hz
  ·rename_i e;subst e;split at hz
   ·exact ho z (Option.some.inj hz)
   ·cases hz
  ·exact YO.og j z hz
theorem yz.step {C:Addr} {H H':Hp} {zs:List (Ya×Yd)} {i:Nat} {A:Ya} {y y':Yd} {S:List Addr} (Y:yz C H zs) (hi:zs[i]?=some (A,y)) (new:bD C H' A y') (f:Fr S H H') (hS:∀b∈S,b∈A.own):yz C H' (zs.set i (A,y')):=by
 have YA:=Y.at_ _ (dM hi);have kp:dI H H':=YA.kp (f.sub fun b hb=>.inl (hS b hb));have hl:i<zs.length:=(iT.mp hi).1
 have get:∀(j:Nat) z,(zs.set i (A,y'))[j]?=some z->∃z0,zs[j]?=some z0/\z0.1=z.1:=fun j z h=>by
  rw[KH] at h;split at h
  ·rename_i e;subst e;cases h;exact⟨_,hi,rfl⟩
  ·exact⟨z,h,rfl⟩
 refine⟨fun z hz=>?_,fun j k z z' h1 h2 ne c hc=>?_⟩
 ·obtain⟨j,hj⟩:=GF hz;rw[KH] at hj;split at hj
  ·cases hj;exact new
  ·rename_i ne;refine(Y.at_ z (dM hj)).off f kp fun b hb hbS=>?_;exact Y.dj j i z _ hj hi (Ne.symm ne) b hb (hS b hbS)
 ·obtain⟨z0,e0,g0⟩:=get j z h1;obtain⟨z1,e1,g1⟩:=get k z' h2;rw[<- g0] at hc;rw[<- g1];exact Y.dj j k z0 z1 e0 e1 ne c hc
def NP (C:Addr):Sp:=fun vs H Q _=>∃(a:Addr) (n:Nat) (l q:Addr) (ns:List Str) (zs:List (Ya×Yd)),vs=[.ref a,.ref l,.ref q]/\Tp H a n/\n<=10000000/\l≠a/\q≠a/\H l=some (.lst (zs.map fun z=>.ref z.1.p))/\H q=some (.lst (ns.map V.str))/\yz C H zs/\(∀z∈zs,cW z.2/\z.2.ns=ns/\a∉z.1.own/\l∉z.1.own/\q∉z.1.own)/\1<=ns.length/\ns.length<=5/\zs.length<=100 /\
 ∀op H',Yl ns op->yz C H' (zs.map fun z=>(z.1,op z.2))->Tp H' a (n+410)->Fr (a::GQ zs) H H'->Q .non H'
theorem De:aV ["_law_tape_here","_law_yards","_law_names_here","_law_at","_law_post_here","_law_goals","_law_goal","_law_way","_law_yard_here"] ["_law_tape_here","_law_yards","_law_names_here"] (aF Af):=(by walk_at "c")
theorem O_ {C:Addr} (F:iK K "_law_put" "_law_put" Af f fd) (B:Bi mg) (Z:ZY K C) (aM:Ct P w K mg base k "_law_draw" ["_law_tape_here","_law_many"] fM) (jA:Ct P w K mg base k "_law_small_post" ["_law_tape_here"] sr) (jC:rT P w K mg base k C "change" ["self","name","post"] (Ur C)) (lR:rT P w K mg base k C "lead" ["self","name","onward"] (Uq C)):bJ P w K mg base gf (k+1) f fd ["_law_tape_here","_law_yards","_law_names_here"] (NP C):=by
 refine F.ok De (by rintro vs H Q E ⟨a,n,l,q,ns,zs,rfl,_⟩; rfl) (fun cdv A outer s H vs Q E hr h=>?_)
 obtain⟨a,n,l,qa,ns,zs,rfl,tp,hn,la,Ou,el,eq',YS,hz,n1,n5,YJ,q⟩:=h;have ND:=De.nd;refine⟨_,(aq (nD (i:=3) (j:=4) rfl ND rfl rfl (by decide) rfl rfl (ao (pf aM hr (ao (pv 0) (ao (pb (cH (K:=K) rfl) B.len d9 (ao (pv 2) ak)) ak))) (ao (pf jA hr (ao (pv 0) ak)) ak)) (by rfl)) (aq (aX (i:=4) ND rfl (by walk_at "o") (aU oE (aU oE (cQ jH (pv 4) dZ (dY aA)) (bx (ao (bx (ao aA (ao (pf aM hr (ao (pv 0) (ao aA ak))) ak))) ak))) (cQ jH (pv 4) (dY aA) dZ))) (aq (aX (i:=5) ND rfl (by walk_at "o") (aU Ba (cQ qM (pv 2) (dY (aU bC (pv 3) aA)) dZ) (bG (ao iI ak)))) (aq (nD (i:=6) (j:=7) rfl ND rfl rfl (by decide) rfl rfl (ao (bB bA (pv 5) (pf aM hr (ao (pv 0) (ao (pb (cH (K:=K) rfl) B.len d9 (ao (pv 5) ak)) ak))) (fun _ _=>rfl)) (ao (pf aM hr (ao (pv 0) (ao aA ak))) ak)) (by rfl)) (aH (gA PassesOwn.never rfl (bH (K:=K) rfl (pv 1)) (aJ (i:=8) ND rfl (by walk_at "o")) (aq (cP (bz gR (pv 7) aA (bw _)) (aH (bO (pm jC hr (pv 8) (ao (bB bA (pv 2) (pv 3) (fun _ _=>rfl)) (ao (pv 4) ak))))) bM) (aH (cP (bz gR (pv 7) aA (bw _)) (aH (bO (pm lR hr (pv 8) (ao (bB bA (pv 2) (pv 3) (fun _ _=>rfl)) (ao (pv 6) ak))))) bM))))))))),?_⟩
 walk_at "rd";refine⟨qa,_,rfl,.inl (cg.of eq'),?_⟩;rw[bZ];refine b_.of tp (by omega) (by omega) (by omega) fun d H1 d0 d1 t1 x1=>?_
 refine⟨a,_,rfl,t1,by omega,fun pp x H2 hx ax t2 x2=>⟨_,_,rfl,?_⟩⟩
 obtain⟨pp',b,c,e,epp,h1,h2,h3,h4⟩:=Ov (ax.mono oG);cases epp;refine⟨pp,_,rfl,h1,fun p3 H3 s3 e3=>?_⟩;refine b_.of (t2.same s3) (by omega) (by decide) (by decide) fun m H4 m0 m1 t4 x4=>⟨by decide,fun p5 H5 f5 s5 e5=>⟨by decide,fun p6 H6 f6 s6 e6=>?_⟩⟩
 have k24:dI H2 H4:=s3.kp.trans (F_ (t2.same s3) x4);have k34:=F_ (t2.same s3) x4;have s46:=s5.trans s6;refine⟨_,_,_,_,rfl,rfl,s46 _ _ (k34 _ _ e3),e6,by show 2+1<=sizeLine; decide,fun p7 H7 s7 e7=>?_⟩
 have X_:dI H2 H6:=k24.trans s46.kp;refine⟨pp,_,rfl,s7 _ _ (X_ _ _ h1),fun p8 H8 s8 e8=>?_⟩;refine⟨_,_,_,_,rfl,rfl,s8 _ _ e7,e8,by show 3+4<=sizeLine; decide,fun p9 H9 s9 e9=>?_⟩
 have k29:dI H2 H9:=X_.trans (s7.kp.trans (s8.kp.trans s9.kp));have s49:aP H4 H9:=s46.trans (s7.trans (s8.trans s9));have px:Cq { x with lo:=0,hi:=m }:={ hx with lo:=⟨Int.le_refl 0,m0⟩,hi:=by show m<=12; omega }
 have a9:At H9 (dz { x with lo:=0,hi:=m }) (.ref p9):=At.tup e9 (aj.cons (At.int _) (aj.cons (At.int _) (aj.cons (At.tup (s9 _ _ (s8 _ _ (s7 _ _ (s6 _ _ e5)))) (aj.cons (At.int _) (aj.cons (At.int _) aj.nil))) (aj.cons (At.int _) (aj.cons (At.int _) (aj.cons (At.kp k29 _ _ rfl h3) (aj.cons (At.kp k29 _ _ (by show bK _=true; exact bf.mpr fun d hd=>by obtain⟨rs,_,rfl⟩:=du.mp hd; exact vP rs) h4) aj.nil)))))))
 generalize hx':({ x with lo:=0,hi:=m }:gM)=x' at px a9
 have xlo:x'.lo=0:=by rw[<- hx']
 have x14:SX a H1 H4:=x2.trans ((SX.of s3).trans x4);have x19:SX a H H9:=x1.trans (x14.trans (SX.of s49));have eq9:=x19.get Ou eq';refine⟨_,_,rfl,rfl,qa,_,rfl,cg.of eq9,fun pa fa=>?_⟩;rw[kZ (by omega),<- Gv]
 have sA:=aQ fa (HO.lst ((ns.drop (d+1).toNat).map V.str));have eA:upd H9 pa (HO.lst ((ns.drop (d+1).toNat).map V.str)) pa=some (HO.lst ((ns.drop (d+1).toNat).map V.str)):=aC;generalize upd H9 pa (HO.lst ((ns.drop (d+1).toNat).map V.str))=HA at sA eA ⊢;refine⟨by decide,fun pb HB fb sB eB=>?_⟩
 refine Gr.of (sB _ _ eA) eB (by simp; omega) fun pc HC fc sC eC=>?_
 obtain⟨os,eos,hos,los,l0⟩:∃os:List (Option Str),(ns.drop (d+1).toNat).map V.str++[V.non]=os.map j_/\(∀o∈os,∀z,o=some z->z∈ns.drop (d.toNat+1))/\os.length<=20/\1<=os.length:=by
  refine⟨(ns.drop (d+1).toNat).map some++[none],by rw[gY,xH]; rfl,?_,by simp; omega,by simp⟩
  intro o ho z hz;rcases fZ.mp ho with h | h
  ·obtain⟨z',hz',ez⟩:=du.mp h;rw[<- ez] at hz;cases hz;rw[show d.toNat+1=(d+1).toNat by omega]
   exact hz'
  ·rw[gJ.mp h] at hz; cases hz
 rw[eos] at eC;have s9C:=sA.trans (sB.trans sC);have tC:=t4.same (s49.trans s9C);have pca:pc≠a:=(t4.same (s49.trans (sA.trans sB))).ne fc;refine⟨pc,_,rfl,.inl (cg.of eC),?_⟩;refine b_.of tC (by omega) (by rw[bZ]; omega) (by rw[bZ]; omega) fun d8 HD d80 d81 tD xD=>?_
 rw[bZ] at d81;have hd8:d8.toNat<os.length:=by omega
 refine Ix.lst (v:=j_ os[d8.toNat]) (xD.get pca eC) (by
  have:=bh (xs:=os.map j_) (j:=d8.toNat) (v:=j_ os[d8.toNat]) (by rw[cJ,dN hd8]; rfl)
  rwa [Int.toNat_of_nonneg d80] at this) ?_
 have hgo:=hos _ (nu hd8);generalize os[d8.toNat]=go at hgo ⊢;refine b_.of tD (by omega) (by decide) (by decide) fun wy HE wy0 wy1 tE xE=>⟨_,_,rfl,?_⟩
 have YX:SX a H HE:=x19.trans ((SX.of s9C).trans (xD.trans xE));have aE:At HE (dz x') (.ref p9):=At.kp (s9C.kp.trans ((F_ tC xD).trans (F_ tD xE))) _ _ (jM _) a9;rw[qG];walk_at "rd";have elE:=YX.get la el;have eqE:=YX.get Ou eq';have kE:dI H HE:=F_ tp YX;have YE:yz C HE zs:=⟨fun z hz'=>(YS.at_ z hz').keep kE fun b hb o e=>YX.get (fun w=>(hz z hz').2.2.1 (by rw[<- w]; exact hb)) e,YS.dj⟩
 obtain⟨op,hop,h0,h1',h2'⟩:∃op,Yl ns op/\(wy=0->op=fun y=>{ y with ps:=y.ps.set d.toNat x' })/\(wy=1->op=fun y=>{ y with os:=y.os.set d.toNat go })/\(wy≠0->wy≠1->op=fun y=>y):=by
  by_cases c0:wy=0
  ·exact⟨_,.inr (.inl ⟨d.toNat,x',by omega,px,xlo,rfl⟩),fun _=>rfl,fun z=>by omega,fun z=>absurd c0 z⟩
  ·by_cases c1:wy=1
   ·exact⟨_,.inr (.inr ⟨d.toNat,go,by omega,hgo,rfl⟩),fun z=>absurd z c0,fun _=>rfl,fun _ z=>absurd c1 z⟩
   ·exact⟨_,.inl rfl,fun z=>absurd z c0,fun z=>absurd z c1,fun _ _=>rfl⟩
 have inS:∀z∈zs,∀b,b=z.1.dp\/b=z.1.dn->b∈GQ zs:=fun z hz' b hb=>Jh.mpr ⟨z,hz',by simpa using hb⟩
 have Wl:∀b,(∀z∈zs,b∉z.1.own)->b∉GQ zs:=fun b h z=>by
  obtain⟨w,hw,hb⟩:=Jh.mp z;refine h w hw ?_;unfold Ya.own;simp only[bI,dD,or_false] at hb;rcases hb with rfl | rfl <;> simp
 refine LK.of elE (fun i σ H'=>∃(o8:Option V) (ws:List (Ya×Yd)),σ=[some (V.ref a),some (V.ref l),some (V.ref qa),some (V.int d),some (V.ref p9),some (V.ref pc),some (j_ go),some (V.int wy),o8]/\ws.length=zs.length/\(∀(j:Nat) z,zs[j]?=some z->ws[j]?=some (z.1,if j<i then op z.2 else z.2))/\yz C H' ws/\Fr (GQ zs) HE H') ⟨_,zs,rfl,rfl,fun j z hj=>by rw[aZ (by omega)]; exact hj,YE,Fr.refl _ _⟩ (fun i σ H' _ ⟨_,_,_,_,_,_,fr⟩=>fr _ _ elE (Wl _ fun z hz'=>(hz z hz').2.2.2.1)) ?_ ?_
 ·rintro i xv σ HF hxv ⟨o8,ws,rfl,lw,hw,YF,fr⟩;rw[cJ] at hxv;cases ez:zs[i]? with
  | none=>rw[ez] at hxv; cases hxv
  | some z=>
  rw[ez] at hxv;cases hxv;have W0:=hz z (dM ez);have ewi:=hw i z ez;rw[aZ (by omega)] at ewi
  have YA:=YF.at_ _ (dM ewi)
  have kF:dI HE HF:=fr.kp fun b hb xs e=>by
   obtain⟨w,hw',hb'⟩:=Jh.mp hb;obtain⟨o,eo,no⟩:=(YE.at_ w hw').al b (by unfold Ya.own; simp only[bI,dD,or_false] at hb'; rcases hb' with rfl | rfl <;> simp)
   rw[eo] at e; cases e; exact no _ rfl
  have eqF:=fr _ _ eqE (Wl _ fun z hz'=>(hz z hz').2.2.2.2);have hdn:ns[d.toNat]?=some ns[d.toNat]:=dN (by omega)
  have atd:Cm (ns.map V.str) d=some (.str ns[d.toNat]):=by
   have:=bh (xs:=ns.map V.str) (j:=d.toNat) (v:=.str ns[d.toNat]) (by rw[cJ,hdn]; rfl)
   rwa [Int.toNat_of_nonneg d0] at this
  generalize ns[d.toNat]=nm at hdn atd
  have nxt:∀(H':Hp) (S:List Addr),bD C H' z.1 (op z.2)->Fr S HF H'->(∀b∈S,b=z.1.dp\/b=z.1.dn)->∃ws':List (Ya×Yd),ws'.length=zs.length/\(∀(j:Nat) z,zs[j]?=some z->ws'[j]?=some (z.1,if j<i+1 then op z.2 else z.2))/\yz C H' ws'/\Fr (GQ zs) HE H':=fun H' S Y' f hS=>by
   refine⟨ws.set i (z.1,op z.2),by rw[Gw]; exact lw,fun j z' hj=>?_,YF.step ewi Y' f fun b hb=>?_,fr.trans (f.sub fun b hb=>.inl (inS z (dM ez) b (hS b hb)))⟩
   ·rw[KH];by_cases c:i=j
    ·subst c;rw[ez] at hj;cases hj;rw[bu rfl,bu (by rw[lw]; exact(iT.mp ez).1),bu (by omega)]
    ·rw[aZ c,hw j z' hj];by_cases c2:j<i
     ·rw[bu c2,bu (by omega)]
     ·rw[aZ c2,aZ (by omega)]
   ·unfold Ya.own;rcases hS b hb with rfl | rfl <;> simp
  walk_at "rd";have h1n:wy=1->¬wy=0:=fun z=>by omega
  refine cT (fun c=>?_) (fun c=>?_)
  ·have c0:=tG c;refine Me.of (m:="change") (R:=fun p=>_) YA (fun _ _ _ _ _ _ _=>rfl) (Ix.lst eqF atd ?_);refine⟨z.1,z.2,d.toNat,nm,.ref p9,x',rfl,YA,W0.1,by rw[W0.2.1]; exact hdn,At.kp kF _ _ (jM _) aE,?_,fun HG YG fG=>?_⟩
   ·have:=N_ (i:=d.toNat) xlo W0.1.pg;have:=W0.1.lm;omega
   ·obtain⟨ws',g1,g2,g3,g4⟩:=nxt HG [z.1.dp] (by rw[h0 c0]; exact YG) fG (fun b hb=>.inl (gJ.mp hb))
    rw[aZ (by intro z; have:=tG z; omega)]
    exact⟨_,ws',rfl,g1,g2,g3,g4⟩
  ·have c0:¬wy=0:=Dp c;refine cT (fun c=>?_) (fun c=>?_)
   ·have c1:=tG c;refine Me.of (m:="lead") (R:=fun p=>_) YA (fun _ _ _ _ _ _ _=>rfl) (Ix.lst eqF atd ?_);refine⟨z.1,z.2,d.toNat,nm,go,rfl,YA,W0.1,by rw[W0.2.1]; exact hdn,by rw[W0.2.1]; exact hgo,fun HG YG fG=>?_⟩
    obtain⟨ws',g1,g2,g3,g4⟩:=nxt HG [z.1.dn] (by rw[h1' c1]; exact YG) fG (fun b hb=>.inr (gJ.mp hb))
    exact⟨_,ws',rfl,g1,g2,g3,g4⟩
   ·have c1:¬wy=1:=Dp c;obtain⟨ws',g1,g2,g3,g4⟩:=nxt HF [] (by rw[h2' c0 c1]; exact YA) (Fr.refl _ _) (fun b hb=>by simp at hb)
    exact⟨_,ws',rfl,g1,g2,g3,g4⟩
 ·rintro σ HF ⟨o8,ws,rfl,lw,hw,YF,fr⟩;walk_at "rd"
  have ew:ws=zs.map fun z=>(z.1,op z.2):=by
   refine List.ext_getElem? fun j=>?_;rw[cJ];cases ez:zs[j]? with
   | none=>
    show ws[j]?=none;rw[List.getElem?_eq_none_iff] at ez ⊢; omega
   | some z=>
    rw[hw j z ez,bu (by rw[bZ]; exact(iT.mp ez).1)]; rfl
  rw[ew] at YF;refine q op HF hop YF ?_ ?_
  ·obtain⟨u1,u2,u3,eu,r1,r2,r3,r4,r5⟩:=tE;exact⟨u1,u2,u3,fr _ _ eu (Wl _ fun z hz'=>(hz z hz').2.2.1),r1,r2,r3,r4,by omega⟩
  ·intro b o e nb;simp only[bI,not_or] at nb;exact fr _ _ (YX.get nb.1 e) nb.2
theorem oh {y:Yd} (YO:cW y):(eX y).map (·.1)=y.ns:=by
 have:=YO.lp;have:=YO.lo;exact List.map_fst_zip (by rw[vY]; omega)
theorem Dg {y:Yd} (YO:cW y):(eX y).map (·.2)=y.ps.zip y.os:=by
 have:=YO.lp;have:=YO.lo;exact List.map_snd_zip (by rw[vY]; omega)
theorem uP {y:Yd} (YO:cW y):(eX y).map (·.2.1)=y.ps:=by
 have:=YO.lp;have:=YO.lo;have h:=nq (List.map Prod.fst) (Dg YO);rw[xH,List.map_fst_zip (by omega)] at h
 exact h
theorem Ah {y:Yd} (YO:cW y):(eX y).map (·.2.2)=y.os:=by
 have:=YO.lp;have:=YO.lo;have h:=nq (List.map Prod.snd) (Dg YO);rw[xH,List.map_snd_zip (by omega)] at h
 exact h
theorem Od {y:Yd} (YO:cW y):Ie y.tot (eX y):=by
 have l:=kI YO;refine⟨by have:=YO.n1; omega,by have:=YO.n5; omega,by rw[oh YO]; exact YO.nn,fun x hx=>?_,fun i x z hx hz=>?_,by rw[uP YO]; exact YO.lm⟩
 ·have:x.1∈y.ns:=by rw[<- oh YO]; exact List.mem_map_of_mem hx
  exact YO.ng _ this
 ·rw[oh YO];refine YO.og i z ?_;have:((eX y).map (·.2.2))[i]?=some x.2.2:=by rw[cJ,hx]; rfl
  rw[Ah YO,hz] at this;exact this
def yx (t s:List Int):List Int:=List.zipWith (· + ·) t s
def lift (ts0:List (List Int)) (h_:List (List Rw)) (y:Yd):Yd:={ y with ts:=List.zipWith yx ts0 y.ts,pa:=h_++y.pa }
structure T0 (ts0:List (List Int)) (m:Nat):Prop where
 l:ts0.length=m
 g:∀t∈ts0,t.length=3
theorem Ln {t:List Int} (h:t.length=3):∃a b c,t=[a,b,c]:=match t,h with
 | [a,b,c],_=>⟨a,b,c,rfl⟩
theorem Q9 {ts0 ts:List (List Int)} {i:Nat} {s:List Int}:List.zipWith yx ts0 (ts.set i s)=(List.zipWith yx ts0 ts).set i (yx (ts0.getD i []) s):=by
 induction ts0 generalizing ts i with
 | nil=>simp
 | cons t ts0 ih=>
  cases ts with
  | nil=>simp
  | cons u ts=>
   cases i with
   | zero=>rfl
   | succ i=>
    simp only[DW,List.zipWith_cons_cons];rw[ih];rfl
theorem R8 {ts0:List (List Int)} {h_:List (List Rw)} {y:Yd} {i:Nat} {c:Int} (T:T0 ts0 y.ns.length) (YO:cW y) (hi:i<y.ns.length):QS (lift ts0 h_ y) i c=lift ts0 h_ (QS y i c):=by
 have l1:=YO.lt;have l0:=T.l;have et:y.ts[i]?=some y.ts[i]:=dN (by omega)
 have e0:ts0[i]?=some ts0[i]:=dN (by omega)
 obtain⟨a,b,d,e⟩:=Ln (YO.tg _ (nu (show i<y.ts.length by omega)))
 obtain⟨a',b',d',e'⟩:=Ln (T.g _ (nu (show i<ts0.length by omega)))
 have h1:KZ y i=[a,b,d]:=by unfold KZ; rw[lC,et,e]; rfl
 have h2:ts0.getD i []=[a',b',d']:=by rw[lC,e0,e']; rfl
 have h3:KZ (lift ts0 h_ y) i=[a'+a,b'+b,d'+d]:=by
  unfold KZ lift;dsimp only;rw[lC,List.getElem?_zipWith,e0,et,e,e']; rfl
 have h4:∀u v w:Int,QB (KZ (lift ts0 h_ y) i) u v w=yx (ts0.getD i []) (QB (KZ y i) u v w):=fun u v w=>by
  rw[h1,h2,h3];unfold QB yx;simp[Int.add_assoc]
 unfold QS;rw[h4];show({ lift ts0 h_ y with ss:=_,ts:=_ }:Yd)=lift ts0 h_ _
 unfold lift;dsimp only;rw[Q9];rfl
theorem run_lift {ts0:List (List Int)} {h_:List (List Rw)} {y:Yd} {cm:List Int} (T:T0 ts0 y.ns.length) (YO:cW y):∀i,i<=y.ns.length->dJ (lift ts0 h_ y) cm i=(lift ts0 h_ (dJ y cm i).1,(dJ y cm i).2.1,(dJ y cm i).2.2)
 | 0,_=>rfl
 | i+1,h=>by
  have ih:=run_lift (h_:=h_) (cm:=cm) T YO i (Jk h);have F:=fW y cm i;have e:dJ (lift ts0 h_ y) cm (i+1)=mR (dJ (lift ts0 h_ y) cm i) i:=rfl;have e':dJ y cm (i+1)=mR (dJ y cm i) i:=rfl;rw[e,e',ih];have hp:=R8 (h_:=h_) (c:=(dJ y cm i).2.1.getD i 0) (i:=i) (y:=(dJ y cm i).1) (by rw[F.n]; exact T) (uO YO (Jk h)) (by rw[F.n]; omega)
  unfold mR;dsimp only;rw[hp];rfl
theorem TQ {ts0:List (List Int)} {h_:List (List Rw)} {y:Yd} {cs:List (Str×Int)} (T:T0 ts0 y.ns.length) (YO:cW y):Fe (lift ts0 h_ y) cs=Fe y cs/\uM (lift ts0 h_ y) cs=lift ts0 h_ (uM y cs):=by
 have h:=run_lift (h_:=h_) (cm:=uU y.ns cs) T YO y.ns.length (bL _)
 have h1:Fe (lift ts0 h_ y) cs=Fe y cs:=by
  show(dJ (lift ts0 h_ y) (uU y.ns cs) y.ns.length).2.2=_;rw[h]; rfl
 refine⟨h1,?_⟩;show({ (dJ (lift ts0 h_ y) (uU y.ns cs) y.ns.length).1 with pa:=(h_++y.pa)++[Fe (lift ts0 h_ y) cs] }:Yd)=_
 rw[h,h1];unfold lift uM;dsimp only;rw[Dl]
theorem R_ {ns:List Str} {op:Yd->Yd} (h:Yl ns op) (ts0:List (List Int)) (h_:List (List Rw)) (y:Yd):op (lift ts0 h_ y)=lift ts0 h_ (op y):=by
 rcases h with rfl | ⟨i,x,_,_,_,rfl⟩ | ⟨i,o,_,_,rfl⟩ <;> rfl
theorem T7 {y:Yd} (YO:cW y):lift y.ts y.pa (tM y.tot (eX y) y.ss)=y:=by
 unfold lift tM;rw[oh YO,uP YO,Ah YO];have l1:=kI YO;have l2:=YO.lt
 have:List.zipWith yx y.ts ((eX y).map fun _=>[0,0,0])=y.ts:=by
  refine List.ext_getElem? fun i=>?_;rw[List.getElem?_zipWith,cJ];cases e:y.ts[i]? with
  | none=>simp
  | some t=>
   have hi:i<y.ts.length:=(iT.mp e).1;rw[dN (show i<(eX y).length by omega)]
   obtain⟨a,b,c,rfl⟩:=Ln (YO.tg t (dM e));simp[yx]
 rw[this];simp
theorem SN {y:Yd} (YO:cW y):cW (tM y.tot (eX y) y.ss):=by
 unfold tM;rw[oh YO,uP YO,Ah YO];refine { YO with lt:=by show((eX y).map _).length=_; rw[bZ,kI YO],tg:=fun t ht=>?_,pn:=by simp,pl:=by simp }
 obtain⟨_,_,rfl⟩:=du.mp ht;rfl
theorem Ve {y:Yd} {cs:List (Str×Int)}:(uM y cs).ns=y.ns:=(fW y (uU y.ns cs) y.ns.length).n
theorem Qu {y:Yd} {cs:List (Str×Int)}:(uM y cs).tot=y.tot:=(fW y (uU y.ns cs) y.ns.length).t
theorem Fd {y:Yd} {cs:List (Str×Int)}:(uM y cs).pa=y.pa++[Fe y cs]:=rfl
theorem UG {y:Yd} {cm:List Int}:∀i,i<=y.ns.length->∀r∈(dJ y cm i).2.2,r.n∈y.ns
 | 0,_,r,hr=>by simp[dJ] at hr
 | i+1,h,r,hr=>by
  have e':dJ y cm (i+1)=mR (dJ y cm i) i:=rfl;rw[e'] at hr;unfold mR at hr;dsimp only at hr;rcases fZ.mp hr with z | z
  ·exact UG i (Jk h) r z
  ·rw[gJ.mp z];unfold Ft;dsimp only;rw[(fW y cm i).n,lC,dN (show i<y.ns.length by omega)]
   exact nu _
theorem aaJ {y:Yd} {cs:List (Str×Int)}:∀r∈Fe y cs,r.n∈y.ns:=UG _ (bL _)
theorem SD.rw {r:Rw} (h:PyData.strOk r.n=true):SD 2 (Jg r):=SD.tup (by show 5<=1000; decide) fun e he=>by
 simp only[bI,dD,or_false] at he;rcases he with rfl | rfl | rfl | rfl | rfl
 ·exact SD.str h
 all_goals exact SD.int _
def QT (rs:List Rw):PyData:=.list (rs.map Jg)
theorem SD.ln {rs:List Rw} (h:∀r∈rs,PyData.strOk r.n=true) (l:rs.length<=1000):SD 3 (QT rs):=SD.lst (by rw[bZ]; exact l) fun e he=>by
 obtain⟨r,hr,rfl⟩:=du.mp he;exact SD.rw (h r hr)
theorem SD.lns {pa:List (List Rw)} (h:∀rs∈pa,∀r∈rs,PyData.strOk r.n=true) (l:pa.length<=1000) (l':∀rs∈pa,rs.length<=1000):SD 4 (.list (pa.map QT)):=SD.lst (by rw[bZ]; exact l) fun e he=>by
 obtain⟨r,hr,rfl⟩:=du.mp he;exact SD.ln (h r hr) (l' r hr)
theorem bR.J9 {H:Hp}:∀{ls:List Addr} {rs:List (List Rw)},bR H ls rs->aj H (rs.map QT) (ls.map V.ref)
 | [],[],_=>aj.nil
 | l::ls,r::rs,h=>by
  obtain⟨⟨xs,e,a⟩,h2⟩:=h;exact aj.cons (by unfold QT At; exact⟨l,xs,rfl,e,a⟩) (bR.J9 h2)
 | [],_::_,h=>h.elim
 | _::_,[],h=>h.elim
theorem bR.drop {H:Hp}:∀(k:Nat) {ls:List Addr} {rs:List (List Rw)},bR H ls rs->bR H (ls.drop k) (rs.drop k)
 | 0,_,_,h=>h
 | k+1,[],[],h=>h
 | k+1,l::ls,r::rs,h=>bR.drop k h.2
 | _+1,[],_::_,h=>h.elim
 | _+1,_::_,[],h=>h.elim
theorem Ad {a b:TS} {D:Ends} {σ:St} {H:Hp} (R:St->Hp->Prop) (hR:∀σ' H',R σ' H'->b D σ' H') (h:∀N:St->Hp->Prop,(∀σ' H',R σ' H'->N σ' H')->a { D with nx:=N } σ H):Ko a b D σ H:=h _ hR
structure WD (C a:Addr) (H0:Hp) (m:Nat) (zs:List (Ya×Yd)) (ls:List (Addr×List V)) (H':Hp):Prop where
 ys:yz C H' zs
 yo:∀z∈zs,cW z.2
 fo:∀z∈zs,∀c∈z.1.own,H0 c=none/\c≠a/\∀l∈ls,c≠l.1
 lo:∀l∈ls,H0 l.1=none/\l.1≠a/\H' l.1=some (.lst l.2)
 tp:Tp H' a m
 sx:SX a H0 H'
section
variable {C a:Addr} {H0 H' dC:Hp} {m m':Nat} {zs:List (Ya×Yd)} {ls:List (Addr×List V)}
theorem WD.Nj (W:WD C a H0 m zs ls H') (x:SX a H' dC) (t:Tp dC a m'):WD C a H0 m' zs ls dC:=
 ⟨⟨fun z hz=>(W.ys.at_ z hz).keep (F_ W.tp x) fun b hb o e=>x.get (W.fo z hz b hb).2.1 e,W.ys.dj⟩,W.yo,W.fo,fun l hl=>⟨(W.lo l hl).1,(W.lo l hl).2.1,x.get (W.lo l hl).2.1 (W.lo l hl).2.2⟩,t,W.sx.trans x⟩
theorem WD.grow (W:WD C a H0 m zs ls H') (s:aP H' dC):WD C a H0 m zs ls dC:=W.Nj (SX.of s) (W.tp.same s)
theorem WD.free (W:WD C a H0 m zs ls H') {b:Addr} (e:H' b=none):H0 b=none/\b≠a/\(∀l∈ls,b≠l.1)/\∀z∈zs,b∉z.1.own:=by
 have ba:=W.tp.ne e;refine⟨Zf W.sx ba e,ba,fun l hl z=>?_,fun z hz hb=>?_⟩
 ·rw[z,(W.lo l hl).2.2] at e; cases e
 ·obtain⟨o,eo,_⟩:=(W.ys.at_ z hz).al b hb;rw[eo] at e; cases e
theorem WD.mem (W:WD C a H0 m zs ls H') {b:Addr} {vs:List V} (f:H0 b=none) (ba:b≠a) (o:∀z∈zs,b∉z.1.own) (e:H' b=some (.lst vs)):WD C a H0 m zs ((b,vs)::ls) H':=
 ⟨W.ys,W.yo,fun z hz c hc=>⟨(W.fo z hz c hc).1,(W.fo z hz c hc).2.1,fun l hl=>by
  rcases bI.mp hl with h | h
  ·rw[h]; intro e'; exact o z hz (show b∈z.1.own from(show c=b from e')▸hc)
  ·exact(W.fo z hz c hc).2.2 l h⟩,fun l hl=>by
  rcases bI.mp hl with h | h
  ·rw[h]; exact⟨f,ba,e⟩
  ·exact W.lo l h,W.tp,W.sx⟩
theorem WD.new (W:WD C a H0 m zs ls H') {b:Addr} {vs:List V} (e0:H' b=none) (s:aP H' dC) (e:dC b=some (.lst vs)):WD C a H0 m zs ((b,vs)::ls) dC:=by
 obtain⟨f1,f2,_,f4⟩:=W.free e0;exact(W.grow s).mem f1 f2 f4 e
theorem WD.acO (W:WD C a H0 m zs ls H') {b:Addr} {vs:List V} (e0:H' b=none) (x:SX a H' dC) (t:Tp dC a m') (e:dC b=some (.lst vs)):WD C a H0 m' zs ((b,vs)::ls) dC:=by
 obtain⟨f1,f2,_,f4⟩:=W.free e0;exact(W.Nj x t).mem f1 f2 f4 e
theorem WD.less (W:WD C a H0 m zs ls H') {ls':List (Addr×List V)} (h:∀l∈ls',l∈ls):WD C a H0 m zs ls' H':=⟨W.ys,W.yo,fun z hz c hc=>⟨(W.fo z hz c hc).1,(W.fo z hz c hc).2.1,fun l hl=>(W.fo z hz c hc).2.2 l (h l hl)⟩,fun l hl=>W.lo l (h l hl),W.tp,W.sx⟩
theorem WD.kp (W:WD C a H0 m zs ls H') {S:List Addr} (f:Fr S H' dC) (hS:∀b∈S,b=a\/∃z∈zs,b∈z.1.own):dI H' dC:=f.kp fun b hb xs e=>by
 rcases hS b hb with h | ⟨z,hz,h⟩
 ·rw[h] at e; exact W.tp.neT e rfl
 ·obtain⟨o,eo,no⟩:=(W.ys.at_ z hz).al b h;rw[eo] at e; cases e; exact no _ rfl
theorem WD.abU (W:WD C a H0 m zs ls H') {i:Nat} {A A':Ya} {y y':Yd} {S:List Addr} (hi:zs[i]?=some (A,y)) (new:bD C dC A' y') (YO:cW y') (f:Fr S H' dC) (hS:∀b∈S,b∈A.own) (hA:∀c∈A'.own,c∈A.own\/H' c=none):WD C a H0 m (zs.set i (A',y')) ls dC:=by
 have hz:=dM hi;have hl:i<zs.length:=(iT.mp hi).1;have kp:dI H' dC:=W.kp f fun b hb=>.inr ⟨_,hz,hS b hb⟩
 have get:∀(j:Nat) z,(zs.set i (A',y'))[j]?=some z->(j=i/\z=(A',y'))\/(j≠i/\zs[j]?=some z):=fun j z h=>by
  rw[KH] at h;split at h
  ·rename_i e;cases h;exact .inl ⟨e.symm,rfl⟩
  ·rename_i e;exact .inr ⟨Ne.symm e,h⟩
 have nw:∀c∈A'.own,H0 c=none/\c≠a/\(∀l∈ls,c≠l.1)/\∀j z,j≠i->zs[j]?=some z->c∉z.1.own:=fun c hc=>by
  rcases hA c hc with h | h
  ·obtain⟨f1,f2,f3⟩:=W.fo _ hz c h;exact⟨f1,f2,f3,fun j z hj ej=>W.ys.dj i j _ z hi ej (Ne.symm hj) c h⟩
  ·obtain⟨f1,f2,f3,f4⟩:=W.free h;exact⟨f1,f2,f3,fun j z _ ej=>f4 z (dM ej)⟩
 refine⟨⟨fun z hz'=>?_,fun j k z z' h1 h2 ne c hc=>?_⟩,fun z hz'=>?_,fun z hz' c hc=>?_,fun l hl'=>⟨(W.lo l hl').1,(W.lo l hl').2.1,f _ _ (W.lo l hl').2.2 fun h=>(W.fo _ hz _ (hS _ h)).2.2 l hl' rfl⟩,?_,?_⟩
 ·obtain⟨j,hj⟩:=GF hz';rcases get j z hj with⟨_,rfl⟩ | ⟨ne,e⟩
  ·exact new
  ·exact(W.ys.at_ z (dM e)).off f kp fun b hb hbS=>W.ys.dj j i z _ e hi ne b hb (hS b hbS)
 ·rcases get j z h1 with⟨e1,rfl⟩ | ⟨n1,e1⟩
  ·rcases get k z' h2 with⟨e2,rfl⟩ | ⟨n2,e2⟩
   ·omega
   ·exact(nw c hc).2.2.2 k z' n2 e2
  ·rcases get k z' h2 with⟨e2,rfl⟩ | ⟨n2,e2⟩
   ·exact fun h=>(nw c h).2.2.2 j z n1 e1 hc
   ·exact W.ys.dj j k z z' e1 e2 ne c hc
 ·obtain⟨j,hj⟩:=GF hz';rcases get j z hj with⟨_,rfl⟩ | ⟨ne,e⟩
  ·exact YO
  ·exact W.yo z (dM e)
 ·obtain⟨j,hj⟩:=GF hz';rcases get j z hj with⟨_,rfl⟩ | ⟨ne,e⟩
  ·exact⟨(nw c hc).1,(nw c hc).2.1,(nw c hc).2.2.1⟩
  ·exact W.fo z (dM e) c hc
 ·obtain⟨u1,u2,u3,eu,r⟩:=W.tp;exact⟨u1,u2,u3,f _ _ eu fun h=>(W.fo _ hz _ (hS _ h)).2.1 rfl,r⟩
 ·intro b o e;obtain⟨b1,b2⟩:=jx e;rw[cL b1]
  exact f _ _ (W.sx.get b1 b2) fun h=>by
   have:=(W.fo _ hz _ (hS _ h)).1;rw[b2] at this; cases this
theorem WD.made (W:WD C a H0 m zs ls H') {A:Ya} {y:Yd} (new:bD C dC A y) (YO:cW y) (s:aP H' dC) (hA:∀c∈A.own,H' c=none):WD C a H0 m (zs++[(A,y)]) ls dC:=by
 have W2:=W.grow s;have nw:∀c∈A.own,H0 c=none/\c≠a/\(∀l∈ls,c≠l.1)/\∀z∈zs,c∉z.1.own:=fun c hc=>W.free (hA c hc);refine⟨⟨fun z hz=>?_,fun j k z z' h1 h2 ne c hc=>?_⟩,fun z hz=>?_,fun z hz c hc=>?_,W2.lo,W2.tp,W2.sx⟩
 ·rcases fZ.mp hz with h | h
  ·exact W2.ys.at_ z h
  ·rw[gJ.mp h]; exact new
 ·have get:∀(j:Nat) z,(zs++[(A,y)])[j]?=some z->(j<zs.length/\zs[j]?=some z)\/(j=zs.length/\z=(A,y)):=fun j z h=>by
   by_cases hj:j<zs.length
   ·rw[KQ hj] at h; exact .inl ⟨hj,h⟩
   ·rw[Ds (by omega)] at h
    have:j-zs.length=0:=by
     cases e:j-zs.length with
     | zero=>rfl
     | succ e'=>rw[e] at h; simp at h
    rw[this] at h;cases h;exact .inr ⟨by omega,rfl⟩
  rcases get j z h1 with⟨l1,e1⟩ | ⟨l1,rfl⟩
  ·rcases get k z' h2 with⟨l2,e2⟩ | ⟨l2,rfl⟩
   ·exact W2.ys.dj j k z z' e1 e2 ne c hc
   ·exact fun h=>(nw c h).2.2.2 z (dM e1) hc
  ·rcases get k z' h2 with⟨l2,e2⟩ | ⟨l2,rfl⟩
   ·exact(nw c hc).2.2.2 z' (dM e2)
   ·omega
 ·rcases fZ.mp hz with h | h
  ·exact W.yo z h
  ·rw[gJ.mp h]; exact YO
 ·rcases fZ.mp hz with h | h
  ·exact W.fo z h c hc
  ·rw[gJ.mp h] at hc;exact⟨(nw c hc).1,(nw c hc).2.1,(nw c hc).2.2.1⟩
theorem WD.put (W:WD C a H0 m zs ls H') {b:Addr} {vs vs':List V} (h:(b,vs)∈ls):WD C a H0 m zs ((b,vs')::ls.filter fun l=>l.1≠b) (upd H' b (.lst vs'))/\dI H' (upd H' b (.lst vs')):=by
 obtain⟨h1,h2,h3⟩:=W.lo _ h;have kp:dI H' (upd H' b (.lst vs')):=dI.putL h3;have ob:∀z∈zs,∀c∈z.1.own,c≠b:=fun z hz c hc=>(W.fo z hz c hc).2.2 _ h;refine⟨⟨⟨fun z hz=>(W.ys.at_ z hz).keep kp fun c hc o e=>by rw[aN (ob z hz c hc)]; exact e,W.ys.dj⟩,W.yo,fun z hz c hc=>⟨(W.fo z hz c hc).1,(W.fo z hz c hc).2.1,fun l hl=>?_⟩,fun l hl=>?_,W.tp.dR h2,W.sx.dR h1 h2⟩,kp⟩
 ·rcases bI.mp hl with e | e
  ·rw[e]; exact ob z hz c hc
  ·exact(W.fo z hz c hc).2.2 l (DK.mp e).1
 ·rcases bI.mp hl with e | e
  ·rw[e]; exact⟨h1,h2,aC⟩
  ·obtain⟨e1,e2⟩:=DK.mp e;have e2':l.1≠b:=by simpa using e2
   obtain⟨g1,g2,g3⟩:=W.lo l e1;exact⟨g1,g2,by rw[aN e2']; exact g3⟩
theorem WD.opd (W:WD C a H0 m zs ls H') {op:Yd->Yd} (Y:yz C dC (zs.map fun z=>(z.1,op z.2))) (YO:∀z∈zs,cW (op z.2)) (t:Tp dC a m') (f:Fr (a::GQ zs) H' dC):WD C a H0 m' (zs.map fun z=>(z.1,op z.2)) ls dC/\dI H' dC:=by
 have QV:∀b∈GQ zs,∃z∈zs,b∈z.1.own:=fun b hb=>by
  obtain⟨w,hw,hb'⟩:=Jh.mp hb;refine⟨w,hw,?_⟩;unfold Ya.own;simp only[bI,dD,or_false] at hb';rcases hb' with rfl | rfl <;> simp
 refine⟨⟨Y,fun z hz=>?_,fun z hz c hc=>?_,fun l hl=>⟨(W.lo l hl).1,(W.lo l hl).2.1,f _ _ (W.lo l hl).2.2 fun h=>?_⟩,t,fun b o e=>?_⟩,W.kp f fun b hb=>?_⟩
 ·obtain⟨z0,h0,rfl⟩:=du.mp hz;exact YO z0 h0
 ·obtain⟨z0,h0,rfl⟩:=du.mp hz;exact W.fo z0 h0 c hc
 ·rcases bI.mp h with h | h
  ·exact(W.lo l hl).2.1 h
  ·obtain⟨z,hz,hb⟩:=QV _ h;exact(W.fo z hz _ hb).2.2 l hl rfl
 ·obtain⟨b1,b2⟩:=jx e;rw[cL b1];refine f _ _ (W.sx.get b1 b2) fun h=>?_;rcases bI.mp h with h | h
  ·exact b1 h
  ·obtain⟨z,hz,hb⟩:=QV _ h;have:=(W.fo z hz _ hb).1;rw[b2] at this; cases this
 ·rcases bI.mp hb with h | h
  ·exact .inl h
  ·exact .inr (QV b h)
theorem Z_ {t:Int} {ts:List T3} {ss:List jD} (T:Ie t ts) (hp:∀x∈ts,Cq x.2.1) (hl:ss.length=ts.length) (hS:∀z∈ss,Mt z) (hh:hands ss<=t):cW (tM t ts ss):=by
 refine⟨T.nn,by show 1<=(ts.map _).length; rw[bZ]; exact T.n1,by show(ts.map _).length<=5; rw[bZ]; exact T.n5,by show(ts.map _).length=(ts.map _).length; rw[bZ,bZ],by show(ts.map _).length=(ts.map _).length; rw[bZ,bZ],by show ss.length=(ts.map _).length; rw[bZ]; exact hl,by show(ts.map _).length=(ts.map _).length; rw[bZ,bZ],?_,?_,?_,hS,?_,hh,T.lm,by show 0<=500; decide,fun r hr=>by simp[tM] at hr⟩
 ·intro n hn;obtain⟨x,hx,rfl⟩:=du.mp hn;exact T.ng x hx
 ·intro x hx;obtain⟨z,hz,rfl⟩:=du.mp hx;exact hp z hz
 ·intro i z hz
  replace hz:(ts.map (·.2.2))[i]?=some (some z):=hz
  rw[cJ] at hz;cases e:ts[i]? with
  | none=>rw[e] at hz; cases hz
  | some x=>
   rw[e] at hz;exact T.og i x z e (Option.some.inj hz)
 ·intro u hu;obtain⟨_,_,rfl⟩:=du.mp hu;rfl
theorem Jz (W:WD C a H0 m zs ls H') {t:Int} {p:Addr} {ys:List V} {ts:List T3} {sv:V} {ss:List jD} {P:Addr->Hp->Prop} {E:XK} (hp:H' p=some (.lst ys)) (ha:aj H' (ts.map Ks) ys) (T:Ie t ts) (hps:∀x∈ts,Cq x.2.1) (hsv:(sv=.non/\ss=ts.map fun x=>j7 x.2.1)\/∃l Q8,sv=.ref l/\H' l=some (.lst Q8)/\aj H' (ss.map qL) Q8) (hl:ss.length=ts.length) (hS:∀z∈ss,Mt z) (hh:hands ss<=t)
  (q:∀A H2,aP H' H2->WD C a H0 m (zs++[(A,tM t ts ss)]) ls H2->P A.p H2):∀y2 Vb,H' y2=none->H' Vb=none->Vb≠y2->Gf C [.ref y2,.int t,.ref p,sv] (upd (upd H' Vb (.own y2)) y2 (.ins C Vb [])) (fun v H2=>v=.non/\P y2 H2) E:=by
 intro y2 Vb fy fdx ne;have s3:aP H' (upd (upd H' Vb (.own y2)) y2 (.ins C Vb [])):=(aQ fdx _).trans (aQ (by rw[aN ne.symm]; exact fy) _)
 refine⟨y2,Vb,t,p,ys,ts,sv,ss,rfl,aC,s3 _ _ hp,ha.mono s3,T,hps,?_,hl,hS,hh,fun A HC eA YC _ abT frC=>⟨rfl,?_⟩⟩
 ·rcases hsv with h | ⟨l,Q8,h1,h2,h3⟩
  ·exact .inl h
  ·exact .inr ⟨l,Q8,h1,s3 _ _ h2,h3.mono s3⟩
 ·subst eA;have sC:aP H' HC:=fun c o e=>frC _ _ (s3 _ _ e) (by simp; intro z'; rw[z',fy] at e; cases e)
  refine q A HC sC (W.made YC (Z_ T hps hl hS hh) sC fun c hc=>?_);rcases abT c hc with e | e
  ·rw[e]; exact fy
  ·cases q':H' c with
   | none=>rfl
   | some o=>rw[s3 _ _ q'] at e; cases e
theorem WD.Xu (W:WD C a H0 m zs ls H') {i:Nat} {A:Ya} {y:Yd} {lc:Addr} {us:List V} {cs:List (Str×Int)} {Q:VK} {E:XK} (hi:zs[i]?=some (A,y)) (hl:(lc,us)∈ls) (ac:aj H' (cs.map Vd) us) (G:CmG y.ns cs) (hp:y.pa.length<500)
  (q:∀p mm xs H2,WD C a H0 m (zs.set i ({ A with ou:=A.ou++[mm] },uM y cs)) ((p,xs)::ls) H2->aj H2 ((Fe y cs).map Jg) xs->dI H' H2->H' p=none->Q (.ref p) H2):VL C [.ref A.p,.ref lc] H' Q E:=by
 have hz:=dM hi;have YO:=W.yo _ hz;refine⟨A,y,lc,us,cs,rfl,W.ys.at_ _ hz,YO,(W.lo _ hl).2.2,ac,G.nd,G.ni,hp,fun h=>(W.fo _ hz _ h).2.2 _ hl rfl,fun p mm xs H2 fm fp pm Y2 e2 a2 f2=>?_⟩
 have inS:∀b∈[A.ds,A.dt,A.lp],b∈A.own:=fun b hb=>by
  unfold Ya.own;simp only[bI,dD,or_false] at hb;rcases hb with rfl | rfl | rfl <;> simp
 have W2:=W.abU hi Y2 (Qy YO hp) f2 inS fun c hc=>by
  unfold Ya.own at hc ⊢;simp only[fZ,gJ] at hc ⊢;rcases hc with h | h | h
  ·exact .inl (.inl h)
  ·exact .inl (.inr h)
  ·rw[h]; exact .inr fm
 obtain⟨g1,g2,g3,g4⟩:=W.free fp
 have po:∀z∈zs.set i ({ A with ou:=A.ou++[mm] },uM y cs),p∉z.1.own:=fun z hz' hc=>by
  rcases RN hz' with h | h
  ·exact g4 z h hc
  ·rw[h] at hc;unfold Ya.own at hc;simp only[fZ,gJ] at hc;rcases hc with h | h | h
   ·exact g4 _ hz (by unfold Ya.own; exact Ol _ h)
   ·exact g4 _ hz (by unfold Ya.own; exact iG _ h)
   ·exact pm h
 exact q p mm xs H2 (W2.mem g1 g2 po e2) a2 (W.kp f2 fun b hb=>.inr ⟨_,hz,inS b hb⟩) fp
theorem WD.comes (W:WD C a H0 m zs ls H') {qa:Addr} {ns:List Str} {Q:VK} {E:XK} (hq:(qa,ns.map V.str)∈ls) (nn:ns.Nodup) (n5:ns.length<=5) (hm:m<=10000000)
  (q:∀p us cs H2,WD C a H0 (m+40) zs ((p,us)::ls) H2->aj H2 (List.map Vd cs) us->CmG ns cs->dI H' H2->H' p=none->Q (.ref p) H2):VP [.ref a,.ref qa] H' Q E:=
 ⟨a,m,qa,ns,rfl,W.tp,hm,(W.lo _ hq).2.1,(W.lo _ hq).2.2,nn,n5,fun p us cs H2 fp _ e2 a2 G t2 x2=>q p us cs H2 (W.acO fp x2 t2 e2) a2 G (F_ W.tp x2) fp⟩
theorem WD.ZV (W:WD C a H0 m zs ls H') {l qa:Addr} {ns:List Str} {Q:VK} {E:XK} (hl:(l,zs.map fun z=>V.ref z.1.p)∈ls) (hq:(qa,ns.map V.str)∈ls) (hns:∀z∈zs,z.2.ns=ns) (n1:1<=ns.length) (n5:ns.length<=5) (YJ:zs.length<=100) (hm:m<=10000000)
  (q:∀op H2,Yl ns op->WD C a H0 (m+410) (zs.map fun z=>(z.1,op z.2)) ls H2->dI H' H2->Q .non H2):NP C [.ref a,.ref l,.ref qa] H' Q E:=
 ⟨a,m,l,qa,ns,zs,rfl,W.tp,hm,(W.lo _ hl).2.1,(W.lo _ hq).2.1,(W.lo _ hl).2.2,(W.lo _ hq).2.2,W.ys,fun z hz=>⟨W.yo z hz,hns z hz,fun h=>(W.fo z hz _ h).2.1 rfl,fun h=>(W.fo z hz _ h).2.2 _ hl rfl,fun h=>(W.fo z hz _ h).2.2 _ hq rfl⟩,n1,n5,YJ,fun op H2 hop Y2 t2 f2=>by
  obtain⟨W2,k2⟩:=W.opd Y2 (fun z hz=>(hop.ok (W.yo z hz) (hns z hz)).1) t2 f2
  exact q op H2 hop W2 k2⟩
theorem JX {x:gM} (h:Cq x):Mt (j7 x)/\hnd (j7 x)=x.lo:=by
 have:=h.lo;refine⟨⟨this.1,rfl,?_,rfl,?_⟩,?_⟩
 ·intro y hy;unfold j7 at hy;simp at hy;omega
 ·intro y hy;unfold j7 at hy;simp at hy;rw[hy]; rfl
 ·unfold hnd j7;simp
theorem ur:∀{ts:List T3},(∀x∈ts,Cq x.2.1)->hands (ts.map fun x=>j7 x.2.1)=((ts.map (·.2.1)).map gM.lo).sum
 | [],_=>rfl
 | x::ts,h=>by
  have ih:=ur (ts:=ts) fun z hz=>h z (g8 _ hz);have:=(JX (h x (iV ..))).2;unfold hands at ih ⊢;simp only[iB,vV] at ih ⊢;rw[ih,this]
end
theorem Qk {xs:List V} {k:Int} (h0:0<k) (h:k<=xs.length):qp xs (some (-k)) none=xs.drop (xs.length-k.toNat):=by
 unfold qp;rw[HT.vM]
 have:HT.fX xs.length 0 (some (-k))=xs.length-k.toNat:=by
  show(if -k<0 then(-k+(xs.length:Int)).toNat else _)=_
  rw[bu (by omega)]
  omega
 rw[this,Om (by rw[sY]; omega)]
theorem RJ.of {K:PySem.W.Frag} {H:Hp} {l:Addr} {xs:List V} {lo hi:Option Int} {Q:VK} (hl:H l=some (.lst xs)) (q:∀p H',H p=none->aP H H'->H' p=some (.lst (qp xs lo hi))->Q (.ref p) H'):RJ K (.ref l) lo hi H Q:=
 ⟨l,xs,rfl,cg.of hl,fun p fp=>q p _ fp (aQ fp _) aC⟩
theorem Bq {G:Hp}:∀{l:List Int} {xs:List V},aj G (l.map PyData.int) xs->xs=l.map V.int
 | [],_,h=>aj.gk h
 | i::l,xs,h=>by
  obtain⟨x,r,rfl,h1,h2⟩:=aj.aR h;unfold At at h1;rw[h1,Bq h2]; rfl
theorem Nh {G:Hp} {t:List Int} {v:V} (h:At G (gm t) v):∃b,v=.ref b/\G b=some (.tup (t.map V.int)):=by
 obtain⟨b,xs,rfl,e,a⟩:=bj h;rw[Bq a] at e;exact⟨b,rfl,e⟩
theorem HH {K:PySem.W.Frag} {n:Nat} {g:TG} {js:List Nat} {ta:TA} {te:TE} {σ:St} {H:Hp} {Q:VK}:eV n js (Ep K ta) g rZ te σ H Q=ta σ H (fun vs H1=>eV n js (Ep K (fun _ H2 R=>R vs H2)) g rZ te σ H1 Q):=rfl
def Fw (ls:List (Addr×List V)) (la:Addr) (H:Hp):List Addr->List (List Rw)->Prop
 | [],[]=>True
 | m::ms,r::rs=>(m≠la/\∃xs,(m,xs)∈ls/\aj H (r.map Jg) xs)/\Fw ls la H ms rs
 | _,_=>False
theorem Fw.past {C a:Addr} {H0 H':Hp} {m:Nat} {zs:List (Ya×Yd)} {ls:List (Addr×List V)} {la:Addr} (W:WD C a H0 m zs ls H'):∀{ms:List Addr} {rs:List (List Rw)},Fw ls la H' ms rs->bR H' ms rs
 | [],[],_=>trivial
 | b::ms,r::rs,h=>by
  obtain⟨⟨_,xs,h1,h2⟩,h3⟩:=h;exact⟨⟨xs,(W.lo _ h1).2.2,h2⟩,Fw.past W h3⟩
 | [],_::_,h=>h.elim
 | _::_,[],h=>h.elim
theorem Fw.mono {H H':Hp} {ls ls':List (Addr×List V)} {la:Addr} (k:dI H H') (hl:∀l∈ls,l.1≠la->l∈ls'):∀{ms:List Addr} {rs:List (List Rw)},Fw ls la H ms rs->Fw ls' la H' ms rs
 | [],[],_=>trivial
 | b::ms,r::rs,h=>by
  obtain⟨⟨h0,xs,h1,h2⟩,h3⟩:=h;exact⟨⟨h0,xs,hl _ h1 h0,aj.kp k _ _ (jL r) h2⟩,Fw.mono k hl h3⟩
 | [],_::_,h=>h.elim
 | _::_,[],h=>h.elim
theorem Fw.snoc {H:Hp} {ls:List (Addr×List V)} {la b:Addr} {xs:List V} {r:List Rw} (h0:b≠la) (h1:(b,xs)∈ls) (h2:aj H (r.map Jg) xs):∀{ms:List Addr} {rs:List (List Rw)},Fw ls la H ms rs->Fw ls la H (ms++[b]) (rs++[r])
 | [],[],_=>⟨⟨h0,xs,h1,h2⟩,trivial⟩
 | c::ms,s::rs,h=>⟨h.1,Fw.snoc h0 h1 h2 h.2⟩
 | [],_::_,h=>h.elim
 | _::_,[],h=>h.elim
def Zj (C:Addr):Sp:=fun vs H Q _=>∃(a:Addr) (n:Nat),vs=[.ref a]/\Tp H a n/\n<=100000/\∀H' m,Tp H' a m->SX a H H'->Q (.bl true) H'
theorem t_:aV ["_law_tape_here","_law_total","_law_rows","_law_yard_here","_law_names_here","_law_turn","_law_stands_here","_law_anew","_law_ahead","_law_lines","_law_comes_here","_law_told","_law_name","_law_before","_law_more"] ["_law_tape_here"] (aF pU):=(by walk_at "c")
theorem Ef {C:Addr} (F:iK K "_law_walked" "_law_walked" pU f fd) (B:Bi mg) (Z:ZY K C) (aM:Ct P w K mg base k "_law_draw" ["_law_tape_here","_law_many"] fM) (Qp:Ct P w K mg base k "_law_yard" ["_law_tape_here"] Zi) (HW:Ct P w K mg base k "_law_stands" ["_law_tape_here","_law_total","_law_rows"] Ut) (J7:Ct P w K mg base k "_law_put" ["_law_tape_here","_law_yards","_law_names_here"] (NP C)) (zT:Ct P w K mg base k "_law_comes" ["_law_tape_here","_law_names_here"] VP) (lA:Ct P w K mg base k "_law_same" ["_law_found","_law_due"] (Rp 6)) (oO:Ct P w K mg base k "_law_stood" ["_law_yard_here","_law_names_here"] (Uu C)) (Cg:Yp P w K mg base k C "Yard" ["self","total","posts","stands"] (Gf C)) (eN:rT P w K mg base k C "stand" ["self","name"] (mU C gS)) (fJ:rT P w K mg base k C "post" ["self","name"] (mU C gP)) (dH:rT P w K mg base k C "onward" ["self","name"] (mU C gO)) (eZ:rT P w K mg base k C "counts" ["self","name"] (mU C gT)) (gG:rT P w K mg base k C "beat" ["self","comes"] (VL C)) (iu:rT P w K mg base k C "beats" ["self"] (Us C)) (gD:rT P w K mg base k C "told" ["self"] (Up C)):bJ P w K mg base gf (k+1) f fd ["_law_tape_here"] (Zj C):=by
 refine F.ok t_ (by rintro vs H Q E ⟨a,n,rfl,_⟩; rfl) (fun cdv A outer s H vs Q E hr h=>?_)
 obtain⟨a,n,rfl,tp,hn,q⟩:=h;have ND:=t_.nd;refine⟨_,(aq (dX (pf Qp hr (ao (pv 0) ak)) (bU (K:=K) (n:=2) rfl rfl (aK (aJ (i:=1) ND rfl (by walk_at "o")) (aK (aJ (i:=2) ND rfl (by walk_at "o")) bT)))) (aq (dX (bx (ao (pk Cg hr (ao (pv 1) (ao (pt (oN) B.list jQ (ao (pv 2) ak)) (ao (pf HW hr (ao (pv 0) (ao (pv 1) (ao (pv 2) ak)))) ak)))) (ao (cV (N':=["_law_row_here"]) (js:=[]) rfl (bH (K:=K) rfl (pv 2)) qC.U3 rfl (by decide) rfl (fun fp s' H'=>(bB bA (pv 0) aA (fun _ _=>rfl)))) ak))) (bU (K:=K) (n:=2) rfl rfl (aK (aJ (i:=3) ND rfl (by walk_at "o")) (aK (aJ (i:=4) ND rfl (by walk_at "o")) bT)))) (aq (gA PassesOwn.never rfl (dF (by rfl) B.range (ao (pf aM hr (ao (pv 0) (ao aA ak))) ak)) (aJ (i:=5) ND rfl (by walk_at "o")) (aq (bO (pf J7 hr (ao (pv 0) (ao (bG (ao (pv 3) ak)) (ao (pv 4) ak))))) (aH (bO (pm gG hr (pv 3) (ao (pf zT hr (ao (pv 0) (ao (pv 4) ak))) ak)))))) (aq (Al (i:=6) ND rfl (by walk_at "o") (N':=["_law_name","_law_yard_here"]) (js:=[3]) rfl (bH (K:=K) rfl (pv 4)) qC.mk1 rfl (by decide) rfl (fun fp s' H'=>(pm eN hr (pv 1) (ao (pv 0) ak)))) (aq (aX (i:=7) ND rfl (by walk_at "o") (pk Cg hr (ao (pv 1) (ao (cV (N':=["_law_name","_law_yard_here"]) (js:=[3]) rfl (bH (K:=K) rfl (pv 4)) qC.mk1 rfl (by decide) rfl (fun fp s' H'=>(bx (ao (pv 0) (ao (pm fJ hr (pv 1) (ao (pv 0) ak)) (ao (pm dH hr (pv 1) (ao (pv 0) ak)) ak)))))) (ao (pv 6) ak))))) (aq (nD (i:=8) (j:=9) rfl ND rfl rfl (by decide) rfl rfl (ao (cV (N':=["_law_name","_law_yard_here"]) (js:=[3]) rfl (bH (K:=K) rfl (pv 4)) qC.mk1 rfl (by decide) rfl (fun fp s' H'=>(pm eZ hr (pv 1) (ao (pv 0) ak)))) (ao (bG ak) ak)) (by rfl)) (aq (cP (PW.pt (ug (nC (fQ (pf lA hr (ao (bG (ao (V9 iu hr (pv 7)) (ao (V9 gD hr (pv 7)) ak))) (ao (bG (ao aA (ao (bG ak) ak))) ak))))) (nA (bz (O5 hr.units) (pf oO hr (ao (pv 7) (ao (pv 4) ak))) (pf oO hr (ao (pv 3) (ao (pv 4) ak))) (bw _))))) (aH (a_ uh)) bM) (aq (gA PassesOwn.never rfl (dF (by rfl) B.range (ao aA ak)) (aJ (i:=5) ND rfl (by walk_at "o")) (aq (bO (pf J7 hr (ao (pv 0) (ao (bG (ao (pv 3) (ao (pv 7) ak))) (ao (pv 4) ak))))) (aq (aX (i:=10) ND rfl (by walk_at "o") (pf zT hr (ao (pv 0) (ao (pv 4) ak)))) (aq (aX (i:=11) ND rfl (by walk_at "o") (pm gG hr (pv 3) (ao (pt (oN) B.list jQ (ao (pv 10) ak)) ak))) (aq (bO (g_ (K:=K) rfl PySem.F.plainAttrs_list PySem.F.slot_list_append PySem.F.type_list_append fC (pv 9) (ao (pv 11) ak))) (aH (cP (PW.pt (ug (nC (fQ (pf lA hr (ao (pm gG hr (pv 7) (ao (pv 10) ak)) (ao (pv 11) ak))))) (nA (bz (O5 hr.units) (pf oO hr (ao (pv 7) (ao (pv 4) ak))) (pf oO hr (ao (pv 3) (ao (pv 4) ak))) (bw _))))) (aH (a_ uh)) bM))))))) (aq (gA PassesOwn.never rfl (Ju (K:=K) rfl B.zip (ao (pv 4) (ao (pv 8) ak))) (bU (K:=K) (n:=2) rfl rfl (aK (aJ (i:=12) ND rfl (by walk_at "o")) (aK (aJ (i:=13) ND rfl (by walk_at "o")) bT))) (aq (aX (i:=14) ND rfl (by walk_at "o") (pt (i_) B.tuple gH (ao (jr (nt:=2) (N':=["_law_later","_law_earlier"]) (js:=[]) rfl (Jt (K:=K) rfl B.zip (ao (pm eZ hr (pv 3) (ao (pv 12) ak)) (ao (pv 13) ak))) pG.of (fun fp s' H'=>(bU (K:=K) (n:=2) rfl rfl (aK (aJ (i:=0) (by show List.Nodup (["_law_later","_law_earlier"]:List Str); decide) rfl (.inl (fY rfl)) (.inr (fY rfl))) (aK (aJ (i:=1) (by show List.Nodup (["_law_later","_law_earlier"]:List Str); decide) rfl (.inl (fY rfl)) (.inr (fY rfl))) bT)))) (fun fp s' H'=>ik) (fun fp s' H'=>(aU jt (pv 0) (pv 1)))) ak))) (aH (cP (nC (fQ (pf lA hr (ao (pm eZ hr (pv 7) (ao (pv 12) ak)) (ao (pv 14) ak))))) (aH (a_ uh)) bM)))) (aH (a_ (pf lA hr (ao (bG (ao (V9 iu hr (pv 7)) (ao (V9 gD hr (pv 7)) (ao (cQ qM (V9 gD hr (pv 3)) (dY (UT M5 aA)) dZ) ak)))) (ao (bG (ao aA (ao (pv 9) (ao (pv 9) ak)))) ak)))))))))))))),?_⟩
 refine Ad (fun σ H1=>∃tot p us ts,σ=[some (.ref a),some (.int tot),some (.ref p),none,none,none,none,none,none,none,none,none,none,none,none]/\H p=none/\p≠a/\H1 p=some (.lst us)/\aj H1 (List.map Ks ts) us/\Ie tot ts/\(∀x∈ts,Cq x.2.1)/\Tp H1 a (n+3000)/\SX a H H1) ?_ ?_
 rotate_left
 ·intro N hN;walk_at "rd";refine⟨a,n,rfl,tp,by omega,fun p q' tot ts us H1 ep f1 qa e1 a1 T hps _ t1 x1=>?_⟩
  refine⟨p,_,rfl,e_.of ep,rfl,?_⟩;walk_at "rd";exact hN _ _ ⟨tot,q',us,ts,rfl,f1,qa,e1,a1,T,hps,t1,x1⟩
 rintro σ H1 ⟨tot,pr,us,ts,rfl,f1,QR,e1,a1,T,hps,t1,x1⟩;refine Ad (fun σ H2=>∃pv A y qa,σ=[some (.ref a),some (.int tot),some pv,some (.ref A.p),some (.ref qa),none,none,none,none,none,none,none,none,none,none]/\y.tot=tot/\y.pa=[]/\WD C a H (n+3400) [(A,y)] [(qa,y.ns.map V.str)] H2) ?_ ?_
 rotate_left
 ·intro N hN;walk_at "rd";refine⟨pr,us,rfl,e1,fun p2 f2=>?_⟩;have s2:=aQ f2 (HO.lst us);have e2:upd H1 p2 (.lst us) p2=some (.lst us):=aC;generalize upd H1 p2 (.lst us)=H2 at s2 e2 ⊢;have lt:=a1.length;rw[bZ] at lt;have p2a:=t1.ne f2;have T5:=T.n5;refine⟨a,_,tot,pr,us,rfl,t1.same s2,by omega,QR,s2 _ _ e1,by omega,fun sv H3 hsv t3 x3=>?_⟩
  have W3:WD C a H (n+3000+400) [] [] H3:=⟨⟨by simp,by simp⟩,by simp,by simp,by simp,t3,x1.trans ((SX.of s2).trans x3)⟩
  have k13:dI H1 H3:=s2.kp.trans (F_ (t1.same s2) x3);have a3:=aj.kp k13 _ _ (qI _) a1;have e3:=x3.get QR (s2 _ _ e1)
  obtain⟨ss,ac3,hls,hSS,hhs⟩:∃ss:List jD,((sv=.non/\ss=ts.map fun x=>j7 x.2.1)\/∃l Q8,sv=.ref l/\H3 l=some (.lst Q8)/\aj H3 (ss.map qL) Q8)/\ss.length=ts.length/\(∀z∈ss,Mt z)/\hands ss<=tot:=by
   rcases hsv with h | ⟨l,Q8,ss,h1,_,_,h2,h3,h4,h5,h6⟩
   ·refine⟨_,.inl ⟨h,rfl⟩,by rw[bZ],fun z hz=>?_,by rw[ur hps]; exact T.lm⟩
    obtain⟨x,hx,rfl⟩:=du.mp hz;exact(JX (hps x hx)).1
   ·exact⟨ss,.inr ⟨l,Q8,h1,h2,h3⟩,by omega,h5,h6⟩
  refine Jz W3 (x3.get p2a e2) a3 T hps ac3 hls hSS hhs fun A H4 s4 W4=>?_;have a4:=a3.mono s4;obtain⟨lD,TA⟩:=vg a4;refine il ((ts.map (·.1)).map .str) (fun R hR=>by walk_at "rd"; exact hR) (s4 _ _ e3) (by simp; omega) (by omega) (qJ _) (fun i x d H' hx hd s' R hR=>?_) fun acc vs H5 f5 s5 e5 a5=>?_
  ·have hi:i<ts.length:=by rw[<- lt]; exact(iT.mp hx).1
   have et:ts[i]?=some ts[i]:=dN hi;obtain⟨b,vp,h1,h2,h3⟩:=(TA.mono s'.kp).at_ i _ et;rw[hx] at h1;cases h1;rw[cJ,cJ,et] at hd;cases hd;walk_at "rd";exact Ix.tup h3 (bh (j:=0) rfl) (hR _ _ (aP.refl _) (At.str _))
  ·have:=kj a5;subst this;have W5:=W4.new f5 s5 e5;refine⟨by decide,fun p6 H6 f6 s6 e6=>⟨p6,_,rfl,e_.of e6,rfl,?_⟩⟩
   walk_at "rd";exact hN _ _ ⟨_,A,_,acc,rfl,rfl,rfl,W5.grow s6⟩
 rintro σ H2 ⟨pv,A,y,qa,rfl,abS,ypa,W2⟩
 have ns0:y.ns.length<=5/\1<=y.ns.length/\y.ns.Nodup:=by
  have:=W2.yo (A,y) (by simp)
  exact⟨this.n5,this.n1,this.nn⟩
 generalize hns:y.ns=ns at ns0 W2;refine Ad (fun σ H3=>∃o5 A y m,σ=[some (.ref a),some (.int tot),some pv,some (.ref A.p),some (.ref qa),o5,none,none,none,none,none,none,none,none,none]/\y.tot=tot/\y.ns=ns/\y.pa.length<=12/\m<=1000000/\WD C a H m [(A,y)] [(qa,ns.map V.str)] H3) ?_ ?_
 rotate_left
 ·intro N hN;rw[mL];walk_at "rd";refine b_.of W2.tp (by omega) (by decide) (by decide) fun d H3 d0 d1 t3 x3=>?_
  have W3:=W2.Nj x3 t3;refine FK.of (n:=d.toNat) (by omega) (by omega) (fun i σ H'=>∃o5 A y,σ=[some (.ref a),some (.int tot),some pv,some (.ref A.p),some (.ref qa),o5,none,none,none,none,none,none,none,none,none]/\y.tot=tot/\y.ns=ns/\y.pa.length=i/\WD C a H (n+3401+450*i) [(A,y)] [(qa,ns.map V.str)] H') ⟨_,A,y,rfl,abS,hns,by rw[ypa]; rfl,W3⟩ ?_ (fun σ H' ⟨o5,A,y,h1,h2,h3,h4,h5⟩=>hN _ _ ⟨o5,A,y,_,h1,h2,h3,by omega,by omega,h5⟩)
  rintro i σ H4 hi ⟨o5,A,y,rfl,yt,yn,yp,W4⟩;walk_at "rd";refine⟨by decide,fun p5 H5 f5 s5 e5=>?_⟩
  have W5:=W4.new f5 s5 e5;refine W5.ZV (qa:=qa) (ns:=ns) (by simp) (by simp) (by simpa using yn) (by omega) (by omega) (by simp) (by omega) fun op H6 hop W6 _=>?_
  have YA6:=W6.ys.at_ (A,op y) (by simp)
  refine Me.of (m:="beat") (R:=fun p=>_) YA6 (fun _ _ _ _ _ _ _=>rfl) ?_;obtain⟨_,o2,o3,o4,o5',o6⟩:=hop.ok (y:=y) (W5.yo (A,y) (by simp)) yn
  refine W6.comes (qa:=qa) (ns:=ns) (by simp) ns0.2.2 (by omega) (by omega) fun p7 us7 cs H7 W7 a7 G7 _ _=>?_
  refine W7.Xu (i:=0) rfl (iV ..) a7 (by rw[o2]; exact G7) (by rw[o5']; omega) fun p8 mm xs H8 W8 a8 k8 f8=>?_
  exact⟨_,{ A with ou:=A.ou++[mm] },uM (op y) cs,rfl,by rw[Qu,o6]; exact yt,by rw[Ve]; exact o2,by rw[Fd,o5',cN,yp]; rfl,by
   have:=W8.less (ls':=[(qa,ns.map V.str)]) (by simp)
   exact this.Nj (SX.refl _ _) (this.tp.mono (by omega))⟩
 rintro σ H3 ⟨o5,A,y,m,rfl,yt,yn,yp,hm,W3⟩;have YO:cW y:=W3.yo (A,y) (by simp)
 have ln:y.ns.length=ns.length:=by rw[yn]
 have l1:=YO.lp;have l2:=YO.lo;have l3:=YO.ls;have l4:=YO.lt;subst yt;have eqa:=fun {zs ls H'} (W:WD C a H m zs ls H') (h:(qa,ns.map V.str)∈ls)=>(W.lo _ h).2.2;refine Ad (fun σ H4=>∃sl zs,σ=[some (.ref a),some (.int y.tot),some pv,some (.ref A.p),some (.ref qa),o5,some (.ref sl),none,none,none,none,none,none,none,none]/\H4 sl=some (.lst zs)/\aj H4 (y.ss.map qL) zs/\WD C a H m [(A,y)] [(qa,ns.map V.str)] H4) ?_ ?_
 rotate_left
 ·intro N hN;walk_at "rd";refine il (y.ss.map qL) (fun R hR=>by walk_at "rd"; exact hR) (eqa W3 (by simp)) (by simp only[bZ]; omega) (by rw[bZ]; omega) (dU _) (fun i x d H' hx hd s' R hR=>?_) fun acc vs H4 f4 s4 e4 a4=>hN _ _ ⟨acc,vs,rfl,e4,a4,W3.grow s4⟩
  rw[cJ] at hx;cases et:ns[i]? with
  | none=>rw[et] at hx; cases hx
  | some nm=>
  rw[et] at hx;cases hx;show u_ _ _ _ _ _ _ _ [some (.str nm),some (.ref A.p)] H' _;walk_at "rd";have YA:=(W3.grow s').ys.at_ (A,y) (by simp)
  refine Me.of (m:="stand") (R:=fun p=>_) YA (fun _ _ _ _ _ _ _=>rfl) ?_;exact⟨A,y,i,nm,d,rfl,YA,YO,by rw[yn]; exact et,hd,fun v H5 s5 a5=>hR _ _ s5 a5⟩
 rintro σ H4 ⟨sl,zl,rfl,esl,asl,W4⟩;have gti:∀{i:Nat} {nm:Str},ns[i]?=some nm->y.ns[i]?=some nm:=fun h=>by rw[yn]; exact h
 refine Ad (fun σ H5=>∃A2,σ=[some (.ref a),some (.int y.tot),some pv,some (.ref A.p),some (.ref qa),o5,some (.ref sl),some (.ref A2.p),none,none,none,none,none,none,none]/\WD C a H m [(A,y),(A2,tM y.tot (eX y) y.ss)] [(qa,ns.map V.str)] H5) ?_ ?_
 rotate_left
 ·intro N hN;walk_at "rd";refine il ((eX y).map Ks) (fun R hR=>by walk_at "rd"; exact hR) (eqa W4 (by simp)) (by simp only[bZ]; rw[kI YO]; exact ln) (by rw[bZ]; omega) (qI _) (fun i x d H' hx hd s' R hR=>?_) fun acc vs H5 f5 s5 e5 a5=>?_
  ·rw[cJ] at hx;cases et:ns[i]? with
   | none=>rw[et] at hx; cases hx
   | some nm=>
   rw[et] at hx;cases hx;show Iu _ [some (.str nm),some (.ref A.p)] H' _;walk_at "rd";have YA:=(W4.grow s').ys.at_ (A,y) (by simp)
   have hi:i<ns.length:=(iT.mp et).1;have ep:y.ps[i]?=some y.ps[i]:=dN (by omega)
   have eo:y.os[i]?=some y.os[i]:=dN (by omega)
   have er:(eX y)[i]?=some (nm,y.ps[i],y.os[i]):=by
    unfold eX;rw[Dr,Dr];exact⟨gti et,ep,eo⟩
   rw[cJ,er] at hd;cases hd;refine Me.of (m:="post") (R:=fun p=>_) YA (fun _ _ _ _ _ _ _=>rfl) ?_;refine⟨A,y,i,nm,dz y.ps[i],rfl,YA,YO,gti et,by show(y.ps.map dz)[i]?=_; rw[cJ,ep]; rfl,fun v6 H6 s6 a6=>?_⟩
   refine Me.of (m:="onward") (R:=fun p=>_) (YA.mono s6) (fun _ _ _ _ _ _ _=>rfl) ?_;refine⟨A,y,i,nm,Ec y.os[i],rfl,YA.mono s6,YO,gti et,by show(y.os.map Ec)[i]?=_; rw[cJ,eo]; rfl,fun v7 H7 s7 a7=>⟨by decide,fun p8 H8 f8 s8 e8=>?_⟩⟩
   exact hR _ _ (s6.trans (s7.trans s8)) (At.tup e8 (aj.cons (At.str _) (aj.cons (a6.mono (s7.trans s8)) (aj.cons (a7.mono s8) aj.nil))))
  ·refine Jz (W4.grow s5) e5 a5 (Od YO) (fun x hx=>?_) (.inr ⟨sl,zl,rfl,s5 _ _ esl,asl.mono s5⟩) (by rw[kI YO]; exact l3) YO.sg YO.hs fun A2 H6 s6 W6=>hN _ _ ⟨A2,rfl,W6⟩
   have:x.2.1∈(eX y).map (·.2.1):=du.mpr ⟨x,hx,rfl⟩;rw[uP YO] at this;exact YO.pg _ this
 rintro σ H5 ⟨A2,rfl,W5⟩;have YM:=T7 YO;have YO2:=SN YO;have y2n:(tM y.tot (eX y) y.ss).ns=ns:=by show(eX y).map _=ns; rw[oh YO]; exact yn
 have YL:(tM y.tot (eX y) y.ss).pa=[]:=rfl;have y2t:(tM y.tot (eX y) y.ss).tot=y.tot:=rfl;have T00:T0 y.ts ns.length:=⟨by omega,YO.tg⟩
 have ac6:=yp;generalize tM y.tot (eX y) y.ss=y2 at YM W5 YO2 y2n YL y2t;generalize ac1:y.ts=ts0 at YM T00;generalize y.pa=h_ at YM ac6;generalize y.tot=tot at W5 y2t ⊢;refine Ad (fun σ H6=>∃aa av la,σ=[some (.ref a),some (.int tot),some pv,some (.ref A.p),some (.ref qa),o5,some (.ref sl),some (.ref A2.p),some (.ref aa),some (.ref la),none,none,none,none,none]/\aj H6 (ts0.map gm) av/\aa≠la/\qa≠la/\WD C a H m [(A,y),(A2,y2)] [(la,[]),(aa,av),(qa,ns.map V.str)] H6) ?_ ?_
 rotate_left
 ·intro N hN;walk_at "rd";refine il (ts0.map gm) (fun R hR=>by walk_at "rd"; exact hR) (eqa W5 (by simp)) (by simp only[bZ]; exact T00.l) (by rw[bZ]; omega) (kh _) (fun i x d H' hx hd s' R hR=>?_) fun acc vs H6 f6 s6 e6 a6=>?_
  ·rw[cJ] at hx;cases et:ns[i]? with
   | none=>rw[et] at hx; cases hx
   | some nm=>
   rw[et] at hx;cases hx;show u_ _ _ _ _ _ _ _ [some (.str nm),some (.ref A.p)] H' _;walk_at "rd";have YA:=(W5.grow s').ys.at_ (A,y) (by simp)
   refine Me.of (m:="counts") (R:=fun p=>_) YA (fun _ _ _ _ _ _ _=>rfl) ?_;exact⟨A,y,i,nm,d,rfl,YA,YO,gti et,by show(y.ts.map gm)[i]?=_; rw[ac1]; exact hd,fun v H7 s7 a7=>hR _ _ s7 a7⟩
  ·have W6:=W5.new f6 s6 e6;refine⟨by decide,fun p7 H7 f7 s7 e7=>?_⟩
   have W7:=W6.new f7 s7 e7;refine⟨_,_,rfl,hN _ _ ⟨acc,vs,p7,rfl,a6.mono s7,fun z=>?_,fun z=>?_,W7⟩⟩
   ·rw[z,f7] at e6; cases e6
   ·have:=(W6.lo (qa,ns.map V.str) (by simp)).2.2
    rw[show(qa,ns.map V.str).1=p7 from z,f7] at this; cases this
 rintro σ H6 ⟨aa,av,la,rfl,aav,nal,nql,W6⟩;have aay:H6 qa=some (.lst (ns.map V.str)):=(W6.lo (qa,ns.map V.str) (by simp)).2.2
 refine Ad (fun σ H7=>σ=[some (.ref a),some (.int tot),some pv,some (.ref A.p),some (.ref qa),o5,some (.ref sl),some (.ref A2.p),some (.ref aa),some (.ref la),none,none,none,none,none]/\aP H6 H7) ?_ ?_
 rotate_left
 ·intro N hN;walk_at "rd";have Mr:=W6.ys.at_ (A2,y2) (by simp)
  have YA1:=W6.ys.at_ (A,y) (by simp)
  refine Me.of (m:="beats") (R:=fun p=>_) Mr (fun _ _ _ _ _ _ _=>rfl) ?_;refine⟨A2,y2,rfl,Mr,YO2,?_⟩;refine Me.of (m:="told") (R:=fun p=>_) Mr (fun _ _ _ _ _ _ _=>rfl) ?_;refine⟨A2,y2,rfl,Mr,YO2,fun p7 ms H7 f7 fm nd s7 e7 pa7=>⟨by decide,fun p8 H8 f8 s8 e8=>⟨by decide,fun p9 H9 f9 s9 e9=>⟨by decide,fun p10 J_ f10 Ag e10=>?_⟩⟩⟩⟩
  rw[YL] at pa7 e8;have hms:ms=[]:=List.eq_nil_of_length_eq_zero pa7.length;subst hms;have s89:=s9.trans Ag;refine⟨.ref p8,.ref p10,.list [.int 0,.list []],rfl,At.lst (s89 _ _ e8) (aj.cons (At.int _) (aj.cons (At.lst ((s8.trans s89) _ _ e7) aj.nil) aj.nil)),At.lst e10 (aj.cons (At.int _) (aj.cons (At.lst (Ag _ _ e9) aj.nil) aj.nil)),SD.lst (by decide) (fun e he=>?_),by decide,fun Vk QQ=>⟨true,rfl,?_⟩⟩
  ·simp only[bI,dD,or_false] at he;rcases he with rfl | rfl
   ·exact SD.int _
   ·exact SD.lst (by decide) (by simp)
  rw[aZ (by simp)]
  have s6B:=s7.trans (s8.trans (s89.trans QQ));refine⟨A2,y2,qa,rfl,Mr.mono s6B,YO2,by rw[y2n]; exact s6B _ _ aay,fun p12 H12 f12 s12 a12=>?_⟩
  have s6C:=s6B.trans s12;refine⟨A,y,qa,rfl,YA1.mono s6C,YO,by rw[yn]; exact s6C _ _ aay,fun p13 H13 f13 vN a13=>?_⟩
  have st2:jd y=jd y2:=by rw[<- YM]; rfl
  rw[st2] at a13;obtain⟨m1,m2,m3⟩:=SD.data 7 _ (C_ YO2);refine⟨.list (jd y2),.list (jd y2),a12.mono vN,a13,m1,m1,m2,m2,by omega,?_⟩
  rw[SeqAt.eqv_refl _ m2,aZ (by simp)]
  exact hN _ _ ⟨rfl,s6C.trans vN⟩
 rintro σ H7 ⟨rfl,s7⟩;have W7:=W6.grow s7;have ad3:=aav.mono s7;refine Ad (fun σ H8=>∃o5 Wn Wm A z A2 ms ls,σ=[some (.ref a),some (.int tot),some pv,some (.ref A.p),some (.ref qa),o5,some (.ref sl),some (.ref A2.p),some (.ref aa),some (.ref la),Wn,Wm,none,none,none]/\z.tot=tot/\z.ns=ns/\z.pa.length=10/\(∀rs∈z.pa,∀r∈rs,r.n∈ns)/\aj H8 (ts0.map gm) av/\(qa,ns.map V.str)∈ls/\(aa,av)∈ls/\(la,ms.map V.ref)∈ls/\Fw ls la H8 ms z.pa/\WD C a H (m+450*10) [(A,lift ts0 h_ z),(A2,z)] ls H8) ?_ ?_
 rotate_left
 ·intro N hN;rw[mL];walk_at "rd";refine FK.of (n:=10) rfl (by omega) (fun i σ H'=>∃o5 Wn Wm A z A2 ms ls,σ=[some (.ref a),some (.int tot),some pv,some (.ref A.p),some (.ref qa),o5,some (.ref sl),some (.ref A2.p),some (.ref aa),some (.ref la),Wn,Wm,none,none,none]/\z.tot=tot/\z.ns=ns/\z.pa.length=i/\(∀rs∈z.pa,∀r∈rs,r.n∈ns)/\aj H' (ts0.map gm) av/\(qa,ns.map V.str)∈ls/\(aa,av)∈ls/\(la,ms.map V.ref)∈ls/\Fw ls la H' ms z.pa/\WD C a H (m+450*i) [(A,lift ts0 h_ z),(A2,z)] ls H') ⟨_,_,_,A,y2,A2,[],[(la,[]),(aa,av),(qa,ns.map V.str)],rfl,y2t,y2n,by rw[YL]; rfl,by rw[YL]; simp,ad3,by simp,by simp,by simp,by rw[YL]; trivial,by rw[YM]; exact W7⟩ ?_ (fun σ H' h=>hN _ _ h)
  rintro i σ H8 hi ⟨o5,Wn,Wm,A,y,A2,ms,ls,rfl,yt,yn,yp,YK,av8,q1,q2,q3,LN,W8⟩;walk_at "rd";refine⟨by decide,fun p9 H9 f9 s9 e9=>?_⟩
  have W9:=W8.new f9 s9 e9;refine W9.ZV (qa:=qa) (ns:=ns) (iV ..) (g8 _ q1) (by simpa using⟨yn,yn⟩) (by omega) (by omega) (by simp) (by omega) fun op HA hop WA kA=>?_
  simp only[iB,Dt] at WA;rw[R_ hop] at WA;obtain⟨_,b2,b3,b4,b5,b6⟩:=hop.ok (y:=y) (W8.yo (A2,y) (by simp)) yn
  have lms:=(Fw.past W8 LN).length;rw[yp] at lms;rw[<- b5] at yp YK LN;rw[<- b6] at yt;generalize op y=z at b2 yp YK LN yt WA;have avA:=aj.kp (s9.kp.trans kA) _ _ (kh _) av8;have LNA:=LN.mono (s9.kp.trans kA) (fun l h _=>g8 (p9,[V.ref A.p,V.ref A2.p]) h);refine WA.comes (qa:=qa) (ns:=ns) (g8 _ q1) ns0.2.2 (by omega) (by omega) fun pc uc cs HB WB aB GB kB fpc=>?_
  have eB:=(WB.lo (pc,uc) (by simp)).2.2
  have YAB:=WB.ys.at_ (A,lift ts0 h_ z) (by simp)
  refine Me.of (m:="beat") (R:=fun p=>_) YAB (fun _ _ _ _ _ _ _=>rfl) ?_;refine⟨pc,uc,rfl,eB,fun pd fd=>?_⟩;have sD:=aQ fd (HO.lst uc);have eD:upd HB pd (.lst uc) pd=some (.lst uc):=aC;generalize upd HB pd (.lst uc)=HD at sD eD ⊢;have WDD:=WB.new fd sD eD;have T0z:T0 ts0 z.ns.length:=by rw[b2]; exact T00
  have YOz:cW z:=WB.yo (A2,z) (by simp)
  have YOn:=Qy (cs:=cs) YOz (by omega)
  obtain⟨bl1,bl2⟩:=TQ (h_:=h_) (cs:=cs) T0z YOz;have q3D:(la,ms.map V.ref)∈(pd,uc)::(pc,uc)::(p9,[V.ref A.p,V.ref A2.p])::ls:=by simp[q3]
  have npc:pc≠la:=fun e=>by
   have:=(WA.lo (la,ms.map V.ref) (g8 _ q3)).2.2;rw[<- e,fpc] at this; cases this
  have npd:pd≠la:=fun e=>by
   have:=(WB.lo (la,ms.map V.ref) (by simp[q3])).2.2
   rw[<- e,fd] at this; cases this
  refine WDD.Xu (i:=0) rfl (iV ..) (aB.mono sD) (by show CmG z.ns cs; rw[b2]; exact GB) (by show(h_++z.pa).length<500; rw[cN]; omega) fun pe mm xs HE WE aE kE fE=>?_
  have npe:pe≠la:=fun e=>by
   have:=(WDD.lo _ q3D).2.2;rw[<- e,fE] at this; cases this
  rw[bl1] at aE;rw[bl2] at WE;simp only[Jl] at WE;have elE:=(WE.lo _ (g8 _ q3D)).2.2;have acU:(ms.map V.ref).length<sizeLine:=mF (show _<1000 by rw[bZ,lms]; omega) (lK (aY (by decide)))
  refine⟨.inl ⟨rfl,_,cg.of elE⟩,la,ms.map V.ref,.ref pe,rfl,rfl,elE,acU,?_⟩;obtain⟨WF,kF⟩:=WE.put (vs':=(ms++[pe]).map V.ref) (g8 _ q3D);have eap:ms.map V.ref++[V.ref pe]=(ms++[pe]).map V.ref:=by simp
  rw[eap];generalize upd HE la (.lst ((ms++[pe]).map V.ref))=HF at WF kF ⊢
  have WF:=WF.less (ls':=(la,(ms++[pe]).map V.ref)::(pe,xs)::(pc,uc)::ls.filter fun l=>l.1≠la) (fun l hl=>by
   simp only[bI,DK] at hl ⊢;rcases hl with h | h | h | ⟨h,h'⟩
   ·exact .inl h
   ·exact .inr ⟨.inl h,by rw[h]; simpa using npe⟩
   ·exact .inr ⟨.inr (.inr (.inl h)),by rw[h]; simpa using npc⟩
   ·exact .inr ⟨.inr (.inr (.inr (.inr h))),h'⟩)
  have kBF:=sD.kp.trans (kE.trans kF);have aBF:=aj.kp kBF _ _ (rG cs) aB;have aEF:=aj.kp kF _ _ (jL _) aE;have LNF:=Fw.mono (ls':=(la,(ms++[pe]).map V.ref)::(pe,xs)::(pc,uc)::ls.filter fun l=>l.1≠la) (s9.kp.trans (kA.trans (kB.trans kBF))) (fun l h h'=>by simp[h,h']) LN
  have LNF:=LNF.snoc npe (show(pe,xs)∈_ by simp) aEF
  have avF:=aj.kp (s9.kp.trans (kA.trans (kB.trans kBF))) _ _ (kh _) av8;have YAF:=WF.ys.at_ (A2,z) (by simp)
  refine Me.of (m:="beat") (R:=fun p=>_) YAF (fun _ _ _ _ _ _ _=>rfl) ?_;refine WF.Xu (i:=1) rfl (show(pc,uc)∈_ by simp) aBF (by show CmG z.ns cs; rw[b2]; exact GB) (by omega) fun pf mm2 xs2 HG WG aG kG fG=>?_
  simp only[Jl,DW] at WG;have aEG:=aj.kp kG _ _ (jL _) aEF;have epf:=(WG.lo (pf,xs2) (by simp)).2.2
  have epe:=(WG.lo (pe,xs) (by simp)).2.2
  have sdR:SD 3 (QT (Fe z cs)):=SD.ln (fun r hr=>YOz.str (aaJ r hr)) (j4 (YOn.pl _ (by rw[Fd]; simp)) (by decide))
  refine⟨.ref pf,.ref pe,QT (Fe z cs),rfl,At.lst epf aG,At.lst epe aEG,sdR.mono (by decide),by decide,fun HI sI=>⟨true,rfl,?_⟩⟩
  rw[aZ (by simp)]
  have WI:=WG.grow sI;have nsz:(uM z cs).ns=ns:=by rw[Ve]; exact b2
  have aaw:HI qa=some (.lst (ns.map V.str)):=(WI.lo (qa,ns.map V.str) (by simp[q1,nql])).2.2
  refine⟨{ A2 with ou:=A2.ou++[mm2] },uM z cs,qa,rfl,WI.ys.at_ ({ A2 with ou:=A2.ou++[mm2] },uM z cs) (by simp),YOn,by rw[nsz]; exact aaw,fun p12 H12 f12 s12 a12=>?_⟩
  refine⟨{ A with ou:=A.ou++[mm] },lift ts0 h_ (uM z cs),qa,rfl,(WI.grow s12).ys.at_ ({ A with ou:=A.ou++[mm] },lift ts0 h_ (uM z cs)) (by simp),WI.yo ({ A with ou:=A.ou++[mm] },lift ts0 h_ (uM z cs)) (by simp),by show H12 qa=some (.lst ((uM z cs).ns.map V.str)); rw[nsz]; exact s12 _ _ aaw,fun p13 H13 f13 vN a13=>?_⟩
  have st2:jd (lift ts0 h_ (uM z cs))=jd (uM z cs):=rfl;rw[st2] at a13;obtain⟨m1,m2,m3⟩:=SD.data 7 _ (C_ YOn);refine⟨.list (jd (uM z cs)),.list (jd (uM z cs)),a12.mono vN,a13,m1,m1,m2,m2,by omega,?_⟩
  rw[SeqAt.eqv_refl _ m2,aZ (by simp)]
  have WK:=(WI.grow (s12.trans vN)).less (ls':=(la,(ms++[pe]).map V.ref)::(pe,xs)::(pc,uc)::ls.filter fun l=>l.1≠la) (fun l hl=>g8 _ hl);have kGK:dI HF H13:=kG.trans (sI.trans (s12.trans vN)).kp;refine⟨_,_,_,{ A with ou:=A.ou++[mm] },uM z cs,{ A2 with ou:=A2.ou++[mm2] },ms++[pe],_,rfl,by rw[Qu]; exact yt,nsz,by rw[Fd,cN,yp]; rfl,fun rs hrs r hr=>?_,aj.kp kGK _ _ (kh _) avF,by simp[q1,nql],by simp[q2,nal],by simp,by rw[Fd]; exact LNF.mono kGK (fun l h _=>h),WK.Nj (SX.refl _ _) (WK.tp.mono (by omega))⟩
  rw[Fd] at hrs;rcases fZ.mp hrs with h | h
  ·exact YK rs h r hr
  ·rw[gJ.mp h] at hr;have:=aaJ r hr;rw[b2] at this;exact this
 rintro σ H8 ⟨o5,Wn,Wm,A,z,A2,ms,ls,rfl,yt,yn,yp,YK,av8,q1,q2,q3,LN,W8⟩;have Xx:cW z:=W8.yo (A2,z) (by simp)
 have YL8:cW (lift ts0 h_ z):=W8.yo (A,lift ts0 h_ z) (by simp)
 have aax:=(W8.lo _ q1).2.2;have aaF:=(W8.lo _ q2).2.2;have adu:=(W8.lo _ q3).2.2;have ln8:z.ns.length=ns.length:=by rw[yn]
 have l0:=T00.l;have lav:=av8.length;rw[bZ] at lav;refine Ad (fun σ H9=>∃Z4 Z3 Z2,σ=[some (.ref a),some (.int tot),some pv,some (.ref A.p),some (.ref qa),o5,some (.ref sl),some (.ref A2.p),some (.ref aa),some (.ref la),Wn,Wm,Z4,Z3,Z2]/\aP H8 H9) ?_ ?_
 rotate_left
 ·intro N hN;rw[Kp];walk_at "rd";refine ZKL.of (xs:=ns.map V.str) (ys:=av) aax aaF (by rw[bZ]; omega) (fun i σ H'=>∃Z4 Z3 Z2,σ=[some (.ref a),some (.int tot),some pv,some (.ref A.p),some (.ref qa),o5,some (.ref sl),some (.ref A2.p),some (.ref aa),some (.ref la),Wn,Wm,Z4,Z3,Z2]/\aP H8 H') ⟨_,_,_,rfl,aP.refl _⟩ (fun i σ H' _ ⟨_,_,_,_,s⟩=>⟨s _ _ aax,s _ _ aaF⟩) ?_ (fun σ H' h=>hN _ _ h)
  rintro i x y σ H9 pp hx hy ⟨Z4,Z3,Z2,rfl,s9⟩ fp;have sp:=aQ fp (HO.tup [x,y]);refine⟨pp,_,rfl,e_.of aC,rfl,?_⟩;generalize upd H9 pp (HO.tup [x,y])=HA at sp ⊢;have s8A:=s9.trans sp;rw[cJ] at hx;cases et:ns[i]? with
  | none=>rw[et] at hx; cases hx
  | some nm=>
  rw[et] at hx;cases hx;have hi:i<ns.length:=(iT.mp et).1;have l1:=Xx.lt;have e1:z.ts[i]?=some z.ts[i]:=dN (by omega)
  have e0:ts0[i]?=some ts0[i]:=dN (by omega)
  obtain⟨u,v,t,g1⟩:=Ln (Xx.tg _ (nu (show i<z.ts.length by omega)))
  obtain⟨u',v',t',g0⟩:=Ln (T00.g _ (nu (show i<ts0.length by omega)))
  rw[g1] at e1;rw[g0] at e0;obtain⟨dy,hdy,ady⟩:=(av8.mono s8A).get hy;rw[cJ,e0] at hdy;cases hdy;obtain⟨bb,rfl,ebb⟩:=Nh ady;walk_at "rd";rw[HH];walk_at "rd";have YA:=(W8.grow s8A).ys.at_ (A,lift ts0 h_ z) (by simp)
  refine Me.of (m:="counts") (R:=fun p=>_) YA (fun _ _ _ _ _ _ _=>rfl) ?_;refine⟨A,lift ts0 h_ z,i,nm,gm (yx [u',v',t'] [u,v,t]),rfl,YA,YL8,by show z.ns[i]?=_; rw[yn]; exact et,?_,fun vb HB sB aB=>?_⟩
  ·show((List.zipWith yx ts0 z.ts).map gm)[i]?=_;rw[cJ,List.getElem?_zipWith,e0,e1];rfl
  obtain⟨bc,rfl,ebc⟩:=Nh aB;refine zN (es:=[u,v,t].map PyData.int) (fun R hR=>hR) ebc (sB _ _ ebb) rfl rfl (by show 3<=sizeLine; decide) (gB _) (fun j x y e H' hx hy he s' R hR=>?_) (fun acc zs H' s' hacc hl hA=>?_)
  ·rcases j with _ | _ | _ | j
   ·cases hx; cases hy; cases he;walk_at "rd";exact hR _ _ (aP.refl _) (by rw[show u'+u-u'=u by omega]; exact At.int _)
   ·cases hx; cases hy; cases he;walk_at "rd";exact hR _ _ (aP.refl _) (by rw[show v'+v-v'=v by omega]; exact At.int _)
   ·cases hx; cases hy; cases he;walk_at "rd";exact hR _ _ (aP.refl _) (by rw[show t'+t-t'=t by omega]; exact At.int _)
   ·cases he
  have:=Bq hA;subst this;refine⟨acc,_,rfl,hl,fun pt ft=>?_⟩;have st:=aQ ft (HO.tup ([u,v,t].map V.int));have et':upd H' pt (.tup ([u,v,t].map V.int)) pt=some (.tup ([u,v,t].map V.int)):=aC;generalize upd H' pt (.tup ([u,v,t].map V.int))=HC at st et' ⊢;have s8C:=s8A.trans (sB.trans (s'.trans st));have Mr:=(W8.grow s8C).ys.at_ (A2,z) (by simp)
  refine Me.of (m:="counts") (R:=fun p=>_) Mr (fun _ _ _ _ _ _ _=>rfl) ?_;refine⟨A2,z,i,nm,gm [u,v,t],rfl,Mr,Xx,by rw[yn]; exact et,by show(z.ts.map gm)[i]?=_; rw[cJ,e1]; rfl,fun vd HD sD aD=>?_⟩
  refine⟨vd,.ref pt,gm [u,v,t],rfl,aD,At.tup (sD _ _ et') (cY _),(SD.ints (by show 3<=1000; decide):SD 2 _).mono (by decide),by decide,fun HE sE=>⟨true,rfl,?_⟩⟩
  rw[aZ (by simp)]
  exact⟨_,_,_,rfl,s8C.trans (sD.trans sE)⟩
 rintro σ H9 ⟨Z4,Z3,Z2,rfl,s9⟩;have W9:=W8.grow s9;have LN9:=LN.mono s9.kp (fun l h _=>h);have YA1:=W9.ys.at_ (A,lift ts0 h_ z) (by simp)
 have Mr:=W9.ys.at_ (A2,z) (by simp)
 walk_at "rd";refine Me.of (m:="beats") (R:=fun p=>_) Mr (fun _ _ _ _ _ _ _=>rfl) ?_;refine⟨A2,z,rfl,Mr,Xx,?_⟩;refine Me.of (m:="told") (R:=fun p=>_) Mr (fun _ _ _ _ _ _ _=>rfl) ?_;refine⟨A2,z,rfl,Mr,Xx,fun pf mf HA ff fm nd sA eA pA=>?_⟩;refine Me.of (m:="told") (R:=fun p=>_) (YA1.mono sA) (fun _ _ _ _ _ _ _=>rfl) ?_;refine⟨A,lift ts0 h_ z,rfl,YA1.mono sA,YL8,fun pg mg' HB fg fmg ndg sB eB pB=>?_⟩
 have lg:mg'.length=h_.length+10:=by
  rw[pB.length]; show(h_++z.pa).length=_; rw[cN]; omega
 refine RJ.of eB fun ph HC fh sC eC=>?_;rw[Qk (by decide) (by rw[bZ]; omega),bZ,show mg'.length-Int.toNat 10=h_.length by rw[lg]; show h_.length+10-10=_; omega,<- Gv] at eC
 have pB2:=(pB.drop h_.length);rw[show(lift ts0 h_ z).pa=h_++z.pa from rfl,List.drop_left] at pB2;refine⟨by decide,fun pi HD fi sD eD=>⟨by decide,fun pj HE fj sE eE=>?_⟩⟩
 have sAB:=sA.trans sB;have s9B:=sAB;have Rr:=sC.trans (sD.trans sE);have LNE:=(LN9.mono (s9B.trans Rr).kp (fun l h _=>h)).past (W9.grow (s9B.trans Rr));have adt:HE la=some (.lst (ms.map V.ref)):=(s9B.trans Rr) _ _ (s9 _ _ adu);have pAE:=pA.keep (sB.trans Rr).kp fun b _ o h=>(sB.trans Rr) _ _ h;have pBE:=pB2.keep Rr.kp fun b _ o h=>Rr _ _ h;have sdL:SD 4 (.list (z.pa.map QT)):=SD.lns (fun rs hrs r hr=>Xx.str (by rw[yn]; exact YK rs hrs r hr)) (by omega) (fun rs hrs=>j4 (Xx.pl rs hrs) (by decide))
 have aL:At HE (.list (z.pa.map QT)) (.ref la):=At.lst adt LNE.J9;refine⟨.ref pi,.ref pj,.list [.int 10,.list (z.pa.map QT),.list (z.pa.map QT)],rfl,At.lst (sE _ _ eD) (aj.cons (by rw[yp]; exact At.int _) (aj.cons (At.lst ((sB.trans Rr) _ _ eA) pAE.J9) (aj.cons (At.lst ((sD.trans sE) _ _ eC) pBE.J9) aj.nil))),At.lst eE (aj.cons (At.int _) (aj.cons aL (aj.cons aL aj.nil))),SD.lst (by show 3<=1000; decide) (fun e he=>?_),by decide,fun HF sF=>?_⟩
 ·simp only[bI,dD,or_false] at he;rcases he with rfl | rfl | rfl
  ·exact SD.int _
  ·exact sdL.mono (by decide)
  ·exact sdL.mono (by decide)
 have WF:=W9.grow ((s9B.trans Rr).trans sF);exact q HF _ WF.tp WF.sx
def Jb (K:PySem.W.Frag):Sp:=fun vs H Q _=>∃(p:Addr) (ns:List Int),vs=[.ref p]/\Q3 K H p (ns.map V.int)/\ns.length<=63/\∀H',Q (.bl true) H'
theorem Ob:aV ["_law_script"] ["_law_script"] (aF vH):=(by walk_at "c")
theorem Wk {C:Addr} (F:iK K "law" "law" vH f fd) (B:Bi mg) (Qq:Ct P w K mg base k "_law_tape" ["_law_script","_law_k"] (Ny K)) (HS:Ct P w K mg base k "_law_walked" ["_law_tape_here"] (Zj C)):bJ P w K mg base gf (k+1) f fd ["_law_script"] (Jb K):=by
 refine F.ok Ob (by rintro vs H Q E ⟨p,ns,rfl,_⟩; rfl) (fun cdv A outer s H vs Q E hr h=>?_)
 obtain⟨p,ns,rfl,hS,hl,q⟩:=h;have ND:=Ob.nd;refine⟨_,(aH (a_ (pb (lq rfl) B.all xr (ao (cV (N':=["_law_k","_law_script"]) (js:=[0]) rfl (dF (by rfl) B.range (ao (pb (k_ rfl) B.max tX (ao aA (ao (pb (fD rfl) B.min lU (ao (pb (cH (K:=K) rfl) B.len d9 (ao (pv 0) ak)) (ao aA ak))) ak))) ak)) qC.mk1 rfl (by decide) rfl (fun fp s' H'=>(pf HS hr (ao (pf Qq hr (ao (pv 1) (ao (pv 0) ak))) ak)))) ak)))),?_⟩
 walk_at "rd";rw[rY];walk_at "rd";refine⟨p,_,rfl,.inl hS.sq,_,_,rfl,?_⟩;rw[bZ]
 obtain⟨n,hn,hn8⟩:∃n:Nat,(if(if(4:Int)<(ns.length:Int) then(4:Int) else(ns.length:Int))>2 then(if(4:Int)<(ns.length:Int) then(4:Int) else(ns.length:Int)) else 2)=(n:Int)/\n<=4:=by
  refine⟨(if(if(4:Int)<(ns.length:Int) then(4:Int) else(ns.length:Int))>2 then(if(4:Int)<(ns.length:Int) then(4:Int) else(ns.length:Int)) else 2).toNat,?_,?_⟩ <;> (split <;> split <;> omega)
 rw[hn];refine CK.of (n:=n) rfl (by omega) fun acc hacc=>?_
 refine⟨fun j zs H'=>zs=(List.replicate j true).map V.bl/\H' acc=some (.lst zs)/\Q3 K H' p (ns.map V.int)/\aP H H',⟨rfl,aC,hS.same (aQ hacc _),aQ hacc _⟩,?_,?_⟩
 ·rintro j zs H2 hj ⟨rfl,c2,e2,s2⟩;show mQ _ _ _ _ [some _,some (.ref p)] H2 _;walk_at "rd";refine⟨p,ns,_,rfl,e2.sq,by omega,by omega,fun a H3 f3 s3 t3=>?_⟩
  refine⟨a,0,rfl,t3,by decide,fun H4 _ _ s4=>?_⟩
  have k4:aP H2 H4:=fun b o hb=>by
   have ba:b≠a:=cG hb f3;exact s4.get ba (s3 _ _ hb)
  have s5:=(s2.trans k4).dR (o:=.lst ((List.replicate j true).map V.bl++[V.bl true])) hacc;refine⟨k4 _ _ c2,by rw[bZ,tH]; exact aY (by omega),?_,aC,hS.same s5,s5⟩
  rw[List.map_replicate,<- KJ,List.replicate_succ']
 ·rintro zs H2 ⟨rfl,c2,e2,s2⟩;refine⟨acc,_,rfl,c2,?_⟩;have:(List.replicate n true).all id=true:=by simp
  rw[this];exact q H2
end
theorem un0 {us:List Value} {n:Nat} (h:us.length=n+1):∃a r,us=a::r/\r.length=n:=by
 cases us with
 | nil=>cases h
 | cons a r=>exact⟨a,r,rfl,Nat.succ.inj h⟩
theorem Kg {us:List Value} (h:us.length=1):∃a,us=[a]:=by
 obtain⟨a,r,rfl,g⟩:=un0 h;cases List.length_eq_zero_iff.mp g;exact⟨a,rfl⟩
theorem Cy {us:List Value} (h:us.length=2):∃a a0,us=[a,a0]:=by
 obtain⟨a,r,rfl,g⟩:=un0 h;obtain⟨a0,rfl⟩:=Kg g;exact⟨a,a0,rfl⟩
theorem FQ {us:List Value} (h:us.length=3):∃a a0 a1,us=[a,a0,a1]:=by
 obtain⟨a,r,rfl,g⟩:=un0 h;obtain⟨a0,a1,rfl⟩:=Cy g;exact⟨a,a0,a1,rfl⟩
theorem un4 {us:List Value} (h:us.length=4):∃a a0 a1 a2,us=[a,a0,a1,a2]:=by
 obtain⟨a,r,rfl,g⟩:=un0 h;obtain⟨a0,a1,a2,rfl⟩:=FQ g;exact⟨a,a0,a1,a2,rfl⟩
theorem all_mk {l:PySem.W.OpenLaw} {w:World} {K:PySem.W.Frag} {h:Heap} {mg:Str->Option Value} {fa:Addr} (X:K.In h) (G:h.Ns mainGlobals mg) (hfa:mg "law" = some (.ref fa))
  {f0:Addr} (e0:mJ K "is_name" sV f0)
  {f1:Addr} (e1:mJ K "wish" Gm f1)
  {f2:Addr} (e2:mJ K "rule_wish" m9 f2)
  {f3:Addr} (e3:mJ K "row_says" pR f3)
  {f4:Addr} (e4:mJ K "first_stand" jU f4)
  {f5:Addr} (e5:mJ K "hands_of" pX f5)
  {f6 T6:Addr} (e6:Vl K "beat" Gn f6 T6 12)
  {f7:Addr} (e7:mJ K "since_and_look" gU f7)
  {f8:Addr} (e8:mJ K "change_of" m_ f8)
  {f9:Addr} (e9:mJ K "with_change" jT f9)
  {f10:Addr} (e10:mJ K "sent_home" m8 f10)
  {f11:Addr} (e11:mJ K "check_posts" jV f11)
  {f12:Addr} (Va:mJ K "check_least" jW f12)
  {f13:Addr} (Xn:mJ K "check_onward" jh f13)
  {f14:Addr} (e14:mJ K "check_stands" jg f14)
  {f15:Addr} (Tr:mJ K "_law_tape" vJ f15)
  {f16:Addr} (e16:mJ K "_law_draw" vL f16)
  {f17:Addr} (e17:mJ K "_law_units" sy f17)
  {f18:Addr} (e18:mJ K "_law_row" Ae f18)
  {f19:Addr} (e19:mJ K "_law_rules" sO f19)
  {f20:Addr} (e20:mJ K "_law_post" vK f20)
  {f21:Addr} (e21:mJ K "_law_small_post" jf f21)
  {f22:Addr} (e22:mJ K "_law_stand" sH f22)
  {f23:Addr} (e23:mJ K "_law_names" sS f23)
  {f24:Addr} (e24:mJ K "_law_yard" vI f24)
  {f25:Addr} (e25:mJ K "_law_stands" pW f25)
  {f26:Addr} (e26:mJ K "_law_comes" sU f26)
  {f27:Addr} (e27:mJ K "_law_same" qQ f27)
  {f28:Addr} (e28:mJ K "_law_stood" sG f28)
  {f29:Addr} (e29:mJ K "_law_put" Af f29)
  {f30:Addr} (e30:mJ K "_law_walked" pU f30)
  {f31:Addr} (e31:mJ K "law" vH f31)
  {dq:Addr} (gC:Yq K "Yard" "Yard.__init__" gW dq)
  (xP:cU K dq "total")
  (xR:cU K dq "order")
  (xQ:cU K dq "posts")
  (uI:cU K dq "onwards")
  (wJ:cU K dq "stands")
  (uH:cU K dq "tallies")
  (Bf:cU K dq "past")
  {o_:Addr} (oZ:Fp K dq "check_names" "Yard.check_names" fO o_)
  {wY:Addr} (wO:Fp K dq "change" "Yard.change" jk wY)
  {Bu:Addr} (Bl:Fp K dq "lead" "Yard.lead" lH Bu)
  {xX:Addr} (xU:Fp K dq "hands" "Yard.hands" jY xX)
  {Bt:Addr} (Bk:Fp K dq "post" "Yard.post" lG Bt)
  {wW:Addr} (wM:Fp K dq "onward" "Yard.onward" ji wW)
  {xW:Addr} (xT:Fp K dq "stand" "Yard.stand" jX xW)
  {wX:Addr} (wN:Fp K dq "counts" "Yard.counts" jj wX)
  {rB:Addr} (qZ:Fp K dq "post_beat" "Yard.post_beat" gq rB)
  {Bv:Addr} (Bm:Fp K dq "beat" "Yard.beat" lJ Bv)
  {xY:Addr} (xV:Fp K dq "beats" "Yard.beats" jZ xY)
  {Bs:Addr} (Bj:Fp K dq "told" "Yard.told" lF Bs)
  (yw:PySem.W.nsIn K mainGlobals "beat_beats" = some (some (.ref f6)))
  (Yz:Nb K "all")
  (zZ:Nb K "isinstance")
  (Yt:Nb K "str")
  (Yx:Nb K "len")
  (Yw:Nb K "max")
  (Yv:Nb K "min")
  (Ys:Nb K "sum")
  (Vm:Nb K "list")
  (Fz:Nb K "reversed")
  (Ra:Nb K "range")
  (Q_:Nb K "tuple")
  (CG:Nb K "enumerate")
  (Yu:Nb K "set")
  (YD:Nb K "abs")
  (Yy:Nb K "int")
  (Vo:Nb K "bool")
  (Yr:Nb K "zip")
  (Vn:Nb K "dict")
  {M8 M7 M6:Tok} (Sx:NT K "WHATS" [.str "come" M8,.str "done" M7,.str "wait" M6])
  (Ws:Cr K "OVER" "over")
  (Sy:Cr K "UNDER" "under")
  (Wt:Cr K "EACH" "each")
  (Lh:Cr K "LETTERS" "abcdefghijklmnopqrstuvwxyz")
  (wL:Ni K "MOST_LETTERS" 8)
  (Bh:Ni K "MOST_HANDS" 12)
  (wK:Ni K "TRIPLES_SEEN" 3)
  (Bg:Ni K "MOST_POSTS" 5) :
  ∃fd:FuncData,(∀(s:Shared) (v:Value),BindsTo s fd ⟨[v],[]⟩ [("_law_script",v)])/\∀base:Heap,K.In base->base.Ns mainGlobals mg->bJ l.prog w K mg base gf 9 fa fd ["_law_script"] (Jb K):=by
 obtain⟨h0⟩:=e0.has X G (ps:=["thing"]) fun _ _ _ _ _ _ us hl=>by obtain⟨_,rfl⟩:=Kg hl; rfl
 obtain⟨h1⟩:=e1.has X G (ps:=["post","hands","newest"]) fun _ _ _ _ _ _ us hl=>by obtain⟨_,_,_,rfl⟩:=FQ hl; rfl
 obtain⟨h2⟩:=e2.has X G (ps:=["rule","hands","newest"]) fun _ _ _ _ _ _ us hl=>by obtain⟨_,_,_,rfl⟩:=FQ hl; rfl
 obtain⟨h3⟩:=e3.has X G (ps:=["row","hands","newest"]) fun _ _ _ _ _ _ us hl=>by obtain⟨_,_,_,rfl⟩:=FQ hl; rfl
 obtain⟨h4⟩:=e4.has X G (ps:=["post"]) fun _ _ _ _ _ _ us hl=>by obtain⟨_,rfl⟩:=Kg hl; rfl
 obtain⟨h5⟩:=e5.has X G (ps:=["stand"]) fun _ _ _ _ _ _ us hl=>by obtain⟨_,rfl⟩:=Kg hl; rfl
 obtain⟨h6⟩:=e6.has X G (ps:=["post","stand","come","free"]) (fun _ _ _ _ _ _ _ us hl=>by
  rw[Di] at hl;obtain⟨_,_,_,_,rfl⟩:=un4 hl
  exact⟨_,rfl,rfl⟩) fun _ _ _ _ _ _ _ us hl=>by
  obtain⟨_,_,_,rfl⟩:=FQ (Nat.succ.inj ((cN).symm.trans hl));exact⟨_,rfl,rfl⟩
 obtain⟨h7⟩:=e7.has X G (ps:=["post","since","rest"]) fun _ _ _ _ _ _ us hl=>by obtain⟨_,_,_,rfl⟩:=FQ hl; rfl
 obtain⟨h8⟩:=e8.has X G (ps:=["post","hands","newest","free"]) fun _ _ _ _ _ _ us hl=>by obtain⟨_,_,_,_,rfl⟩:=un4 hl; rfl
 obtain⟨h9⟩:=e9.has X G (ps:=["post","stand","change"]) fun _ _ _ _ _ _ us hl=>by obtain⟨_,_,_,rfl⟩:=FQ hl; rfl
 obtain⟨h10⟩:=e10.has X G (ps:=["ready","called","many"]) fun _ _ _ _ _ _ us hl=>by obtain⟨_,_,_,rfl⟩:=FQ hl; rfl
 obtain⟨h11⟩:=e11.has X G (ps:=["total","posts"]) fun _ _ _ _ _ _ us hl=>by obtain⟨_,_,rfl⟩:=Cy hl; rfl
 obtain⟨h12⟩:=Va.has X G (ps:=["total","posts"]) fun _ _ _ _ _ _ us hl=>by obtain⟨_,_,rfl⟩:=Cy hl; rfl
 obtain⟨h13⟩:=Xn.has X G (ps:=["onward","behind"]) fun _ _ _ _ _ _ us hl=>by obtain⟨_,_,rfl⟩:=Cy hl; rfl
 obtain⟨h14⟩:=e14.has X G (ps:=["total","posts","stands"]) fun _ _ _ _ _ _ us hl=>by obtain⟨_,_,_,rfl⟩:=FQ hl; rfl
 obtain⟨h15⟩:=Tr.has X G (ps:=["_law_script","_law_k"]) fun _ _ _ _ _ _ us hl=>by obtain⟨_,_,rfl⟩:=Cy hl; rfl
 obtain⟨h16⟩:=e16.has X G (ps:=["_law_tape_here","_law_many"]) fun _ _ _ _ _ _ us hl=>by obtain⟨_,_,rfl⟩:=Cy hl; rfl
 obtain⟨h17⟩:=e17.has X G (ps:=["_law_tape_here"]) fun _ _ _ _ _ _ us hl=>by obtain⟨_,rfl⟩:=Kg hl; rfl
 obtain⟨h18⟩:=e18.has X G (ps:=["_law_tape_here","_law_small"]) fun _ _ _ _ _ _ us hl=>by obtain⟨_,_,rfl⟩:=Cy hl; rfl
 obtain⟨h19⟩:=e19.has X G (ps:=["_law_tape_here","_law_small"]) fun _ _ _ _ _ _ us hl=>by obtain⟨_,_,rfl⟩:=Cy hl; rfl
 obtain⟨h20⟩:=e20.has X G (ps:=["_law_tape_here"]) fun _ _ _ _ _ _ us hl=>by obtain⟨_,rfl⟩:=Kg hl; rfl
 obtain⟨h21⟩:=e21.has X G (ps:=["_law_tape_here"]) fun _ _ _ _ _ _ us hl=>by obtain⟨_,rfl⟩:=Kg hl; rfl
 obtain⟨h22⟩:=e22.has X G (ps:=["_law_tape_here"]) fun _ _ _ _ _ _ us hl=>by obtain⟨_,rfl⟩:=Kg hl; rfl
 obtain⟨h23⟩:=e23.has X G (ps:=["_law_tape_here","_law_many"]) fun _ _ _ _ _ _ us hl=>by obtain⟨_,_,rfl⟩:=Cy hl; rfl
 obtain⟨h24⟩:=e24.has X G (ps:=["_law_tape_here"]) fun _ _ _ _ _ _ us hl=>by obtain⟨_,rfl⟩:=Kg hl; rfl
 obtain⟨h25⟩:=e25.has X G (ps:=["_law_tape_here","_law_total","_law_rows"]) fun _ _ _ _ _ _ us hl=>by obtain⟨_,_,_,rfl⟩:=FQ hl; rfl
 obtain⟨h26⟩:=e26.has X G (ps:=["_law_tape_here","_law_names_here"]) fun _ _ _ _ _ _ us hl=>by obtain⟨_,_,rfl⟩:=Cy hl; rfl
 obtain⟨JW⟩:=e27.has X G (ps:=["_law_found","_law_due"]) fun _ _ _ _ _ _ us hl=>by obtain⟨_,_,rfl⟩:=Cy hl; rfl
 obtain⟨h28⟩:=e28.has X G (ps:=["_law_yard_here","_law_names_here"]) fun _ _ _ _ _ _ us hl=>by obtain⟨_,_,rfl⟩:=Cy hl; rfl
 obtain⟨h29⟩:=e29.has X G (ps:=["_law_tape_here","_law_yards","_law_names_here"]) fun _ _ _ _ _ _ us hl=>by obtain⟨_,_,_,rfl⟩:=FQ hl; rfl
 obtain⟨h30⟩:=e30.has X G (ps:=["_law_tape_here"]) fun _ _ _ _ _ _ us hl=>by obtain⟨_,rfl⟩:=Kg hl; rfl
 have yu:=(PySem.W.mg_of X G yw).trans ((PySem.W.mg_of X G e6.ns).symm.trans h6.m)
 obtain⟨JV⟩:=gC.has X G (ps:=["self","total","posts","stands"]) (fun _ _ _ _ _ _ _ us hl=>by
  rw[Di] at hl;obtain⟨_,_,_,_,rfl⟩:=un4 hl
  exact⟨_,rfl,rfl⟩) fun _ _ _ _ _ _ _ us hl=>by
  obtain⟨_,_,_,rfl⟩:=FQ (Nat.succ.inj ((cN).symm.trans hl));exact⟨_,rfl,rfl⟩
 have dB:ZY K dq:=⟨gC.c,xP,xR,xQ,uI,wJ,uH,Bf⟩;obtain⟨iD⟩:=oZ.has (ps:=["self","names"]) fun _ _ _ _ _ _ us hl=>by obtain⟨_,_,rfl⟩:=Cy hl; rfl
 obtain⟨my⟩:=wO.has (ps:=["self","name","post"]) fun _ _ _ _ _ _ us hl=>by obtain⟨_,_,_,rfl⟩:=FQ hl; rfl
 obtain⟨pP⟩:=Bl.has (ps:=["self","name","onward"]) fun _ _ _ _ _ _ us hl=>by obtain⟨_,_,_,rfl⟩:=FQ hl; rfl
 obtain⟨nM⟩:=xU.has (ps:=["self"]) fun _ _ _ _ _ _ us hl=>by obtain⟨_,rfl⟩:=Kg hl; rfl
 obtain⟨pO⟩:=Bk.has (ps:=["self","name"]) fun _ _ _ _ _ _ us hl=>by obtain⟨_,_,rfl⟩:=Cy hl; rfl
 obtain⟨mj⟩:=wM.has (ps:=["self","name"]) fun _ _ _ _ _ _ us hl=>by obtain⟨_,_,rfl⟩:=Cy hl; rfl
 obtain⟨nJ⟩:=xT.has (ps:=["self","name"]) fun _ _ _ _ _ _ us hl=>by obtain⟨_,_,rfl⟩:=Cy hl; rfl
 obtain⟨mq⟩:=wN.has (ps:=["self","name"]) fun _ _ _ _ _ _ us hl=>by obtain⟨_,_,rfl⟩:=Cy hl; rfl
 obtain⟨jw⟩:=qZ.has (ps:=["self","name","come"]) fun _ _ _ _ _ _ us hl=>by obtain⟨_,_,_,rfl⟩:=FQ hl; rfl
 obtain⟨pQ⟩:=Bm.has (ps:=["self","comes"]) fun _ _ _ _ _ _ us hl=>by obtain⟨_,_,rfl⟩:=Cy hl; rfl
 obtain⟨nO⟩:=xV.has (ps:=["self"]) fun _ _ _ _ _ _ us hl=>by obtain⟨_,rfl⟩:=Kg hl; rfl
 obtain⟨pN⟩:=Bj.has (ps:=["self"]) fun _ _ _ _ _ _ us hl=>by obtain⟨_,rfl⟩:=Kg hl; rfl
 have B:Bi mg:=⟨PySem.W.mg_none_of X G Yz,PySem.W.mg_none_of X G zZ,PySem.W.mg_none_of X G Yt,PySem.W.mg_none_of X G Yx,PySem.W.mg_none_of X G Yw,PySem.W.mg_none_of X G Yv,PySem.W.mg_none_of X G Ys,PySem.W.mg_none_of X G Vm,PySem.W.mg_none_of X G Fz,PySem.W.mg_none_of X G Ra,PySem.W.mg_none_of X G Q_,PySem.W.mg_none_of X G CG,PySem.W.mg_none_of X G Yu,PySem.W.mg_none_of X G YD,PySem.W.mg_none_of X G Yy,PySem.W.mg_none_of X G Vo,PySem.W.mg_none_of X G Yr,PySem.W.mg_none_of X G Vn⟩;have O:Co K mg:=⟨(let ⟨a,n,_,z,m⟩:=Sx; ⟨a,PySem.W.mg_of X G z,⟨_,m,rfl,rfl⟩,fun H=>.inr ⟨_,_,n,m,rfl,rfl,(by show 3<=sizeLine; decide),(.cons ⟨_,rfl⟩ (.cons ⟨_,rfl⟩ (.cons ⟨_,rfl⟩ .nil)))⟩⟩),Ws.gs X G,Sy.gs X G,Wt.gs X G,Lh.gs X G,wL.gi X G,Bh.gi X G,wK.gi X G,Bg.gi X G⟩
 obtain⟨oc,od,an,sl,kV,dc,pm,cd,ct,ea,el,ec,ek0⟩:=e31;have e:=hfa.symm.trans (PySem.W.mg_of X G ea);cases e;refine⟨PySem.W.fnOf "law" "law" (cu vH) (bV vH) (aF vH) .none kV dc pm an cd ct,fun s v=>.of_eq rfl,fun base _ _=>?_⟩;have F:=Hw (st:=vH) el ec ek0;have EY:=h15.ct l.prog w base (Ld (k:=0) h15.F B);have cA:=h16.ct l.prog w base (Lf (k:=0) h16.F B);have iY:=h17.ct l.prog w base (G8 (k:=1) h17.F B (cA.mono (by decide)))
 have HX:=h18.ct l.prog w base (O9 (k:=2) h18.F B (cA.mono (by decide)) (iY.mono (by decide)))
 have rM:=h19.ct l.prog w base (Hb (k:=3) h19.F B (cA.mono (by decide)) (HX.mono (by decide)))
 have E_:=h20.ct l.prog w base (Le (k:=4) h20.F B (cA.mono (by decide)) (iY.mono (by decide)) (rM.mono (by decide)))
 have jP:=h21.ct l.prog w base (uz (k:=4) h21.F B (cA.mono (by decide)) (rM.mono (by decide)))
 have Cd:=h23.ct l.prog w base (Hc (k:=1) h23.F B (cA.mono (by decide)))
 have Ez:=h24.ct l.prog w base (Lb (k:=5) h24.F B (cA.mono (by decide)) (E_.mono (by decide)) (jP.mono (by decide)) (Cd.mono (by decide)))
 have Ca:=h22.ct l.prog w base (G_ (k:=2) h22.F B (cA.mono (by decide)) (iY.mono (by decide)))
 have ye:=h25.ct l.prog w base (Eg (k:=3) h25.F B (cA.mono (by decide)) (Ca.mono (by decide)))
 have aO:=iD.ct gC.c l.prog w base (nF (k:=0) iD.F B dB);have eG:=h12.ct l.prog w base (wF (k:=0) h12.F B);have jC:=my.ct gC.c l.prog w base (uG (k:=1) my.F B dB (aO.mono (by decide)) (eG.mono (by decide)))
 have dG:=h13.ct l.prog w base (uD (k:=0) h13.F);have lR:=pP.ct gC.c l.prog w base (xN (k:=1) pP.F B dB (aO.mono (by decide)) (dG.mono (by decide)))
 have HY:=h29.ct l.prog w base (O_ (k:=5) h29.F B dB (cA.mono (by decide)) (jP.mono (by decide)) (jC.mono (by decide)) (lR.mono (by decide)))
 have Ce:=h26.ct l.prog w base (Hd (k:=2) h26.F B (cA.mono (by decide)) (iY.mono (by decide)))
 have yr:=JW.ct l.prog w base (Ha (k:=0) JW.F);have yq:=JW.ct l.prog w base (iZ (k:=1) 0 JW.F B (yr.mono (by decide)))
 have ym:=JW.ct l.prog w base (iZ (k:=2) 1 JW.F B (yq.mono (by decide)))
 have yj:=JW.ct l.prog w base (iZ (k:=3) 2 JW.F B (ym.mono (by decide)))
 have yh:=JW.ct l.prog w base (iZ (k:=4) 3 JW.F B (yj.mono (by decide)))
 have yg:=JW.ct l.prog w base (iZ (k:=5) 4 JW.F B (yh.mono (by decide)))
 have yf:=JW.ct l.prog w base (iZ (k:=6) 5 JW.F B (yg.mono (by decide)))
 have dh:=h5.ct l.prog w base (Eh (k:=0) h5.F B);have eO:=nM.ct gC.c l.prog w base (wH (k:=1) nM.F B dB (dh.mono (by decide)))
 have fJ:=pO.ct gC.c l.prog w base (xM (k:=1) pO.F dB (aO.mono (by decide)))
 have dH:=mj.ct gC.c l.prog w base (uE (k:=1) mj.F dB (aO.mono (by decide)))
 have eN:=nJ.ct gC.c l.prog w base (wG (k:=1) nJ.F dB (aO.mono (by decide)))
 have B_:=h28.ct l.prog w base (G9 (k:=2) h28.F B dB (eO.mono (by decide)) (fJ.mono (by decide)) (dH.mono (by decide)) (eN.mono (by decide)))
 have tV:=h0.ct l.prog w base (Hf (k:=0) h0.F B O);have j9:=h11.ct l.prog w base (wD (k:=1) h11.F B O (tV.mono (by decide)) (dG.mono (by decide)) (eG.mono (by decide)))
 have j8:=h4.ct l.prog w base (wC (k:=0) h4.F B);have jB:=h14.ct l.prog w base (uA (k:=1) h14.F B (dh.mono (by decide)))
 have tW:=qY (k:=2) JV.F B dB (j9.mono (by decide)) (j8.mono (by decide)) (jB.mono (by decide))
 have Qt:=JV.ctE l.prog w base tW;have Cg:=Qt.calm;have eZ:=mq.ct gC.c l.prog w base (uF (k:=1) mq.F dB (aO.mono (by decide)))
 have fH:=h7.ct l.prog w base (qX (k:=0) h7.F);have qu:=h3.ct l.prog w base (Ed (k:=0) h3.F B O);have nU:=h2.ct l.prog w base (Bc (k:=1) h2.F (qu.mono (by decide)))
 have HR:=h1.ct l.prog w base (Su (k:=2) h1.F B (nU.mono (by decide)))
 have jO:=h8.ct l.prog w base (Bd (k:=3) h8.F B (HR.mono (by decide)))
 have nR:=h10.ct l.prog w base (Bb (k:=0) h10.F B);have ir:=h9.ct l.prog w base (wB (k:=1) h9.F B (nR.mono (by decide)))
 have adZ:=h6.ct l.prog w base (Jx (k:=4) h6.F B O (fH.mono (by decide)) (jO.mono (by decide)) (dh.mono (by decide)) (ir.mono (by decide)))
 have lQ:=Q5.alias (h6.ct l.prog w base (Jx (k:=4) h6.F B O (fH.mono (by decide)) (jO.mono (by decide)) (dh.mono (by decide)) (ir.mono (by decide)))) yu
 have gF:=jw.ct gC.c l.prog w base (qe (k:=5) jw.F B O dB (eO.mono (by decide)) (lQ.mono (by decide)))
 have gG:=pQ.ct gC.c l.prog w base (xO (k:=6) pQ.F B dB (aO.mono (by decide)) (gF.mono (by decide)))
 have iu:=nO.ct gC.c l.prog w base (wI (k:=0) nO.F B dB);have gD:=pN.ct gC.c l.prog w base (xK (k:=0) pN.F B dB);have yd:=h30.ct l.prog w base (Ef (k:=7) h30.F B dB (cA.mono (by decide)) (Ez.mono (by decide)) (ye.mono (by decide)) (HY.mono (by decide)) (Ce.mono (by decide)) (yf.mono (by decide)) (B_.mono (by decide)) (Cg.mono (by decide)) (eN.mono (by decide)) (fJ.mono (by decide)) (dH.mono (by decide)) (eZ.mono (by decide)) (gG.mono (by decide)) (iu.mono (by decide)) (gD.mono (by decide)))
 exact Wk (k:=8) F B (EY.mono (by decide)) (yd.mono (by decide))
theorem walk {l:PySem.W.OpenLaw} {q:Program} {loose:List Str} {XP:(Str->Option Value)->Heap->Prop} {YP:World->Heap->Prop} {d:DefRec} {K:Params->PySem.W.Frag} (hn:l.most=some 63) (hdf:d.params.defaults=[])
  (hY:∀(w:World) (h:Heap),YP w h->(K w.params).In h)
  (F:∀(w:World) (mg:Str->Option Value) (fa:Addr) (h:Heap),(K w.params).In h->h.Ns mainGlobals mg->mg d.name=some (.ref fa) ->
   ∃fd:FuncData,(∀(s:Shared) (u:Value),BindsTo s fd ⟨[u],[]⟩ [("_law_script",u)])/\∀base:Heap,(K w.params).In base->base.Ns mainGlobals mg->bJ l.prog w (K w.params) mg base gf 9 fa fd ["_law_script"] (Jb (K w.params))) :
  PySem.W.WalkO q loose XP YP l.row.toRowW d [] (fun f vs=>PySem.call f vs):=
 L2.Rf (n:=63) (k:=9) (x:="_law_script") (CX:=fun _=>gf) (sp:=fun w=>Jb (K w.params)) hn (by decide) hdf ⟨rfl,by decide,by decide,rfl⟩ hY F (fun _ _ a ns hl hO hS=>⟨a,ns,rfl,Q3.of hS hO,hl,fun _=>rfl⟩) fun _ _ _ _ _ z=>z
end K38
structure PySem.W.Fast:Prop where(tw1673211322563477143 tw409367285801938790 tw4001075484919091828 tw6353274235266108701 tw12606371037467313367 tw3795233196190904234 tw11365551241417707360 tw9502822150045578959 tw2438733712025754421 tw4009349677000059263 tw1061020824228106471 tw4601910843355040828 tw10929533920595554873 tw5729366270254015681 tw1265887972226728787 tw14314859397838641482 tw11886678910147236920 tw7595037406239171435 tw2412833323600514535 tw10608277286003656140 tw497179259950302383 tw11481428727909165092 tw17888818960611798561 tw6613517966129346452 tw10431141079465040047 tw8272432287519735669 tw7461400479287775755 tw11906653502657288725 tw10583091715087806863 tw17684474132593566978 tw8185318815955246893 tw5911836456572778324 tw9662849653055143829 tw205100816739006352 tw3994016487833020675 tw18046477329313061689 tw12743953859618389294 tw2952272773714239209 tw17891737405933894612 tw8933145186688524770 tw12457636955665676269 tw11983119367803695705 tw11390984586003183859 tw6406647701683172175 tw7609972167961969235 tw2624523890678728011 tw6469765267295943281 tw13172068031947944954 tw7950153155589909099 tw5584503215300044591 tw4343273487331299546 tw2503407597636174795 tw10984576446688383834 tw7469849621382463326 tw13042843402903454958 tw4364456338802911944 tw15626293075866525889 tw14332385465551504515 tw152859201426321838 tw2410092611109700497 tw16598199280271227933 tw2109822455663156299 tw6226790177847177223 tw14902724926384029761 tw7578905805350776916 tw3019624840294118318 tw4388316214840826554 tw4313898324179527258 tw69879526744440479 tw13164814066337239256 tw4042100385280497698 tw8186472151819663256 tw13687523824670596308 tw12280504548768045020 tw6143853908362488322 tw777720925148729343 tw9094223914210775985 tw18326766583368233658 tw12885728702272239882 tw9911673852089373332 tw6664625365625697117 tw17717104647566179516 tw7749349055974131929 tw15600706235561273839 tw2873059420507199506 tw16405472301750091311 tw11949539006081895886 tw4150899036927697521 tw12189326770861551771 tw774042257390958565 tw17706041998541467034 tw4832046737166118166 tw9974376320414377653 tw13176534768729619340 tw9585747072182310892 tw6233802842462835151 tw17886482642984659538 tw16205462104689843518 tw3992198350498878330 tw6788741341612585230 tw5047184689466581553 tw15465582037112873963 tw9041953385704559356 tw14525472067197831994 tw9709364536965216813 tw17285099070892472728 tw14917587454055304343 tw1521159904061541881 tw462835211059228347 tw8828601340284486980 tw14553877770270218977 tw10773376051696416963 tw15997515940346092006 tw9863466133373212673 tw1255435455455358763 tw8906982799018855199 tw2049025140032198799 tw8453519039881791813 tw16327388375301381306 tw14786493382808403289 tw17916955166339345853 tw14979814205670272035 tw12662115139547629114 tw11638338147312257978 tw4168820850284284068 tw17896946065951125454 tw1389310727477317355 tw5851816021945004088 tw3924316255839903463 tw4989078815681098938 tw9742767417295095777 tw6707524445762740452 tw9940676056657875341 tw5179588178401981941 tw9066480159559567038 tw14936411990783966024 tw7003714051273433553 tw6354389229324888579 tw3523851013883005154 tw9004111243215642386 tw13729271985999681394 tw9559650299362565539 tw1472162435213031694 tw5071614798098855241 tw18422170752839045928 tw8252723158409284808 tw17414706411951322793 tw2258228789237286140 tw12352800249212742332 tw17087860568415678523 tw1029124391087538106 tw6985659493592209271 tw15713613975483074458 tw16028005645357076430 tw15734781458704370245 tw17594851651160823655 tw8152461622378047849 tw1690887277939509985 tw7441926220441540046 tw7965507245845339570 tw13606860206785849810 tw10873907238495886874 tw16781649351364273832 tw3493422024674135529 tw14807891017758225648 tw1180429645518216219 tw13342940037722881084 tw11742481495629544687 tw13933875999229980978 tw2254287635424083703 tw5175020782569931612 tw9557184261087884676 tw1003246721114612553 tw15106202205672288330 tw3713955876261910134 tw9289790867564622698 tw13815085183406865396 tw7936704095522156959 tw5027773056800939811 tw10484013685223629972 tw11478341304446180601 tw2826566957211635403 tw17391481168447170836 tw13325846374699954134 tw2586310907446474653 tw17536702433497339991 tw1457077809425427297 tw877602953661863291 tw8499912047422644821 tw15577020676924947045 tw13730164369995870713 tw16045211344628110477 tw1475732257249010461 tw8938384061810035919 tw12948490715181341928 tw6380736282581625588 tw6374281623966818368 tw11580346133082118418 tw14562336639914414948 tw10509259581686561185 tw11284409356969317870 tw15380808175739064477 tw5222632342597545922 tw13906233156765363522 tw17262328389302210618 tw9254740693017437059 tw9200041470906360396 tw11107644603175969248 tw17807207419793516018 tw16664293527410889117 tw14458280739156847806 tw18267743651567498493 tw13543694066693401880 tw17555724025073394493 tw4833615796541366290 tw17326208528690220936 tw10801952605036409785 tw14143584596006056852 tw5304361151281265236 tw14686075382085708494 tw14036085495456317104 tw15868760575837316578 tw16552694356665685906 tw4531287859066765779 tw17986608862192489482 tw8346957817785450000 tw8241614617774950572 tw12675898640346598801 tw7729892830091413429 tw14336932761477392505 tw3927906296368882715 tw9723578869538265299 tw11879919958464120230 tw15901109617651325064 tw16959165779044515623 tw16588992164324624419 tw7212099344926414975 tw17707996721728533002 tw13433460888466687859 tw16451559079302813435 tw7291456443309269900 tw18264720583829006720 tw11600200645916609262 tw12209788425382574521 tw7589285697858868981 tw12042367570930067135 tw12936381801353837862 tw7631098849537791054 tw7531666968108652163 tw18429943681385590636 tw3052672739453813580 tw4964070956891399608 tw9557342877575618789 tw382728526856527847 tw12233440550786426991 tw669704965377079495 tw2619704105944178047 tw11231435013411705448 tw10436389880643557529 tw4721019565978138234 tw3226479501052824605 tw3323721103216854658 tw286109289523566582 tw10108165221705530426 tw5544721182851683360 tw692089160551906991 tw14766137446976565597 tw13660503788328375818 tw10896551576815590009 tw5191444925383983212 tw1284688788971074730 tw3372722306283250744 tw6689954552134510325 tw17122396471608107149 tw10416592761852225010 tw861222859761798493 tw5229961165241311643 tw1506331571237406523 tw5792964696754384962 tw12025745775971738178 tw11197641906006305471 tw2030582055479965890 tw18384177065215393198 tw12306744498994180082 tw16911177474180115373 tw12688994937679829430 tw7224407441112801386 tw12123500259019896198 tw12780923348806325000 tw760455843997221677 tw12557673106906862176 tw4911691055999904024 tw7052518172482625460 tw533708780847732121 tw2462920036964465197 tw16083727781648102409 tw1590961216578676730 tw9737928932935443738 tw17077838563334990477 tw16082361633355742332 tw5152329619993717593 tw15801693525253605306 tw7615229420001966879 tw8605531432586530450 tw1040858238558104858 tw11808680358525036471 tw10875818730603913300 tw17172520177214632832 tw1816535687770642033 tw14354569265697887105 tw3949436306153582791 tw16329097278311877059 tw121591389401412151 tw3649809532570590864 tw49199195612658033 tw2139804931572617553 tw4109385405869648207 tw12007307879185944254 tw7018472506662174798 tw7629408590244373775 tw12420765537228035588 tw3480524061021066287 tw10371139163836459609 tw5756405298159558911 tw9608687982702640464 tw18329225032081343956 tw9818763660069498280 tw6445908209664444968 tw17129397319947324091 tw17517459563671841096 tw17448489299667566441 tw4420022744012926059 tw3210153837260418199 tw16504110317355486603 tw17526402435936333833 tw1621273745140356323 tw12454649628166776847 tw10481501450506026778 tw11678758575814328859 tw17799182056778845203 tw1645642433144879550 tw9772308260768097122 tw16632248120216132673 tw14619715959949192331 tw13110968556422866707 tw9152596686793487393 tw7301038934363351510 tw17494303331446867207 tw1249796009744893975 tw14566982166717461150 tw16216413399831063840 tw15428347580526754276 tw8845259791179629440 tw5974539355810955521 tw15255232755153640453 tw2942746914415852973 tw14908768239777210581 tw18360868557967469116 tw12054395327381182280 tw6851039367063334897 tw5805597372567958956 tw2683458851246679986 tw10844813448617896727 tw11810500663821128502 tw7001539298373630378 tw2319111199754725128 tw9673370245322693147 tw5666261753685629210 tw9001378713487329360 tw747225463848272568 tw16613186185386781624 tw2399501482512948836 tw3672498389951079324 tw6339026955936263735 tw3482221614865983667 tw13537273236019323859 tw9877746502341654233 tw4101495037587883610 tw8305717939649035688 tw17697461465594249208 tw11769955946001003615 tw12033805003909847108 tw17370539412961824147 tw3868800715365555396 tw15931052618357728334 tw6403553067934828810 tw14676583298737132187 tw11648497062332373012 tw13111970691330624139 tw15475226254697834011 tw1680427166384294149 tw16817141938737965495 tw18136886904117021407 tw13831931107461285538 tw1817376010782174350 tw1647691072998269983 tw15216759772955845809 tw5632846701880445868 tw639234194310226870 tw7665712077106358398 tw7908878213909354447:True)
open PySem PySem.W PyProof.Rows
local macro_rules | `(tactic| walk_at "cle")=>`(tactic| (refine' L2.Yq.mk' ?a ?b ?c ?d ?e ?f ?g ?h ?i ?j ?k ?l ?m; (case a=>k_is); (case b=>k_is); (case c=>k_is); (case d=>k_is); (case e=>k_is); (case f=>k_is); (case g=>k_is); (case h=>k_is); (case i=>k_is); (case j=>k_is); (case k=>k_is); (case l=>k_is); (case m=>k_is)))
local macro_rules | `(tactic| walk_at "fc")=>`(tactic| (refine' L2.Fp.mk' ?a ?b ?c ?d ?e; (case a=>k_is); (case b=>k_is); (case c=>k_is); (case d=>k_is); (case e=>k_is)))
local macro_rules | `(tactic| walk_at "fd")=>`(tactic| (refine' L2.Vl.mk ?a ?b ?c ?d ?e; (case a=>k_is); (case b=>k_is); (case c=>k_is); (case d=>k_is); (case e=>k_is)))
local macro_rules | `(tactic| walk_at "fn")=>`(tactic| (refine' L2.mJ.mk ?a ?b ?c ?d; (case a=>k_is); (case b=>k_is); (case c=>k_is); (case d=>k_is)))
local macro_rules | `(tactic| walk_at "na")=>`(tactic| (unfold L2.cU; k_is))
local macro_rules | `(tactic| walk_at "nb")=>`(tactic| (unfold L2.Nb; k_is))
local macro_rules | `(tactic| walk_at "ni")=>`(tactic| (refine' L2.Ni.mk ?a; (case a=>k_is)))
local macro_rules | `(tactic| walk_at "ns")=>`(tactic| (refine' L2.Cr.mk ?a; (case a=>k_is)))
local macro_rules | `(tactic| walk_at "nt")=>`(tactic| (refine' L2.NT.mk ?a ?b; (case a=>k_is); (case b=>k_is)))
set_option maxRecDepth 100000 in
set_option maxHeartbeats 0 in
theorem PySem.Challenge.cw_waithands_k38_begun_anew_holds : PySem.Challenge.rw_waithands_k38_begun_anew.Holds := by
 w_on; o_law; k_head; (case hw=>w_witness2)
 k_fill
 refine K38.walk (l:=PySem.Challenge.rw_waithands_k38_begun_anew) rfl rfl (fun w h Y=>PySem.W.kIn_of Y) ?F
 case F=>
  intro w mg fa h KX G hmg;refine' K38.all_mk KX G hmg ?e0 ?e1 ?e2 ?e3 ?e4 ?e5 ?e6 ?e7 ?e8 ?e9 ?e10 ?e11 ?Va ?Xn ?e14 ?Tr ?e16 ?e17 ?e18 ?e19 ?e20 ?e21 ?e22 ?e23 ?e24 ?e25 ?e26 ?e27 ?e28 ?e29 ?e30 ?e31 ?e32 ?e33 ?e34 ?e35 ?e36 ?e37 ?e38 ?e39 ?e40 ?e41 ?e42 ?e43 ?e44 ?e45 ?e46 ?e47 ?e48 ?e49 ?e50 ?e51 ?e52 ?e53 ?e54 ?e55 ?e56 ?e57 ?e58 ?e59 ?e60 ?e61 ?e62 ?e63 ?e64 ?e65 ?e66 ?e67 ?e68 ?e69 ?e70 ?e71 ?e72 ?e73 ?e74 ?e75 ?e76 ?e77 ?e78 ?e79
  case e0 | e1 | e2 | e3 | e4 | e5=>walk_at "fn"
  case e6=>walk_at "fd"
  case e7 | e8 | e9 | e10 | e11 | Va | Xn | e14 | Tr | e16 | e17 | e18 | e19 | e20 | e21 | e22 | e23 | e24 | e25 | e26 | e27 | e28 | e29 | e30 | e31=>walk_at "fn"
  case e32=>walk_at "cle"
  case e33 | e34 | e35 | e36 | e37 | e38 | e39=>walk_at "na"
  case e40 | e41 | e42 | e43 | e44 | e45 | e46 | e47 | e48 | e49 | e50 | e51=>walk_at "fc"
  case e52=>k_is
  case e53 | e54 | e55 | e56 | e57 | e58 | e59 | e60 | e61 | e62 | e63 | e64 | e65 | e66 | e67 | e68 | e69 | e70=>walk_at "nb"
  case e71=>walk_at "nt"
  case e72 | e73 | e74 | e75=>walk_at "ns"
  case e76 | e77 | e78 | e79=>walk_at "ni"
