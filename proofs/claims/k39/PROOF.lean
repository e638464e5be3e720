import PyProof.Rows.All
import Wide.All
import OpenK.AllK
import Wide.FinOn
import Lean
import PyProof.EqAt
import PyProof.EqKinds
import PyProof.TupleCall
import PyProof.P3In
import PyProof.NeData
import KE.KMinKey
import PyProof.Rows.CallKwBuiltin
import PyProof.LayNew
import PyProof.EnumFor
import PyProof.EnumMake
import PyProof.EnumStmt
import KE.KRevIter
import KE.KRevSl
import PyProof.StationsW
import PyProof.RulesAs
import KE.KTryMore
import PyProof.Rows.TopTwo
import PyProof.NsDelKeeps
import PyProof.ExcArgsOwn
import KE.KIsAll
import PyProof.AutoListH
import PyProof.SetRoads
import PyProof.SetNew
import PyProof.ListRange
import PyProof.Rows.TupDisplay
import PyProof.Draws
import PyProof.ZipIter
import PyProof.TupleIter
import PyProof.AttrMissSeq
import KE.KDictOf
import PySem.Challenge.RW_waithands_k39_yards_of_one_post
set_option Elab.async false
set_option linter.all false
set_option maxRecDepth 100000
section
open PySem PySem.Spec PyProof.Rows
abbrev aP:=@wpAny_bind
abbrev e_:=@Heap.get?_push_of_some
abbrev gG:=@List.getElem?_eq_getElem
abbrev dw:=@List.getElem?_map
abbrev cT:=@List.length_map
abbrev bW:=@wpAny_pure
abbrev ik:=@lookup_relabel_local
abbrev gF:=@List.mem_singleton
abbrev d_:=@List.mem_cons
abbrev nQ:=@List.getD_eq_getElem?_getD
abbrev eN:=@List.getElem?_eq_some_iff
abbrev bG:=@Nat.le_refl
abbrev dh:=@List.length_append
abbrev dN:=@Heap.get?_push_size
abbrev cW:=@List.not_mem_nil
abbrev b8:=@Heap.lt_size
abbrev gH:=@List.mem_append_right
abbrev eG:=@List.size_toArray
abbrev aV:=@if_neg
abbrev fC:=@List.mem_append
abbrev a_:=@if_pos
abbrev dM:=@Nat.ne_of_lt
abbrev jw:=@Bool.false_ne_true
abbrev ju:=@List.length_cons
abbrev gY:=@Heap.size_push
abbrev oh:=@List.mem_of_getElem?
abbrev n_:=@List.mem_cons_of_mem
abbrev jL:=@List.nodup_cons
abbrev jK:=@List.map_append
abbrev mX:=@Nat.lt_of_lt_of_le
abbrev qJ:=@List.length_replicate
abbrev nZ:=@List.mem_cons_self
abbrev lH:=@List.length_take
abbrev mW:=@List.all_eq_true
abbrev lG:=@decide_eq_false
abbrev nY:=@List.take_length
abbrev iY:=@Nat.zero_le
abbrev jJ:=@wpAny_field
abbrev kj:=@Nat.le_trans
abbrev nW:=@decide_eq_true
abbrev qI:=@List.lookup_cons
abbrev mV:=@wpAny_holding
abbrev yw:=@Option.map_eq_some_iff
abbrev lF:=@List.mem_map
abbrev nU:=@List.map_cons
abbrev uD:=@List.nodup_append
abbrev vR:=@wpAny_Call_Name_kw
abbrev vQ:=@wpAny_newObj_type
abbrev vP:=@Int.toNat_natCast
abbrev rO:=@wpAny_seqItems
abbrev pH:=@Nat.le_of_lt
abbrev uA:=@Int.emod_nonneg
abbrev yu:=@Int.emod_lt_of_pos
abbrev rN:=@Nat.lt_irrefl
abbrev mU:=@wpAny_mono
abbrev yt:=@of_decide_eq_true
abbrev HH:=@List.getElem?_append_right
abbrev DN:=@Heap.get?_update_other
abbrev vO:=@List.length_nil
abbrev Hz:=@List.drop_eq_getElem_cons
abbrev yr:=@List.getElem_mem
abbrev DK:=@List.mem_of_mem_take
abbrev DG:=@List.mem_append_left
abbrev Hy:=@wpAny_callSpecial?_slot
abbrev Bb:=@Nat.lt_succ_of_lt
abbrev Ba:=@wpAny_call_entry
abbrev A_:=@Nat.lt_succ_self
abbrev Az:=@List.length_drop
abbrev Dz:=@wpAny_setField_rec
abbrev Dy:=@Bool.false_eq_true
abbrev Ay:=@List.forIn_cons
abbrev Ax:=@List.append_nil
abbrev Dw:=@wpAny_truthy_bool
abbrev Dv:=@wpAny_pyIter_list
abbrev yq:=@wpAny_standAt
abbrev Kp:=@Option.isSome_iff_exists
abbrev nR:=@congrArg
abbrev Du:=@List.drop_length
abbrev Dt:=@Bool.and_eq_true
abbrev vN:=@wpAny_of_eq
abbrev Hx:=@of_decide_eq_false
abbrev Ds:=@List.length_zip
abbrev Hw:=@List.append_assoc
abbrev Aw:=@Nat.ne_of_gt
abbrev Om:=@List.getElem?_append_left
abbrev Dr:=@List.any_cons
abbrev Hv:=@List.find?_cons
abbrev Ko:=@List.getElem?_drop
abbrev Ol:=@wpAny_getItem_str_slice
abbrev Oj:=@List.getElem?_replicate
abbrev Hu:=@wpAny_tryCatch
abbrev Dq:=@List.map_map
abbrev Av:=@wpAny_rule
abbrev Ht:=@List.sum_cons
abbrev Dp:=@wpAny_letGo
abbrev Oi:=@List.mem_of_mem_drop
abbrev Km:=@wpAny_passesOwn
abbrev Bj:=@List.of_mem_zip
abbrev Bh:=@Bool.eq_iff_iff
abbrev Bg:=@wpAny_bindName
abbrev Bf:=@List.forIn_nil
abbrev Ks:=@List.getElem?_zip_eq_some
abbrev wX:=@Nat.le_succ
abbrev Be:=@wpAny_typeOf
abbrev Kr:=@wpAny_pyIter_rangeiter
abbrev Bd:=@Nat.sub_self
abbrev Bc:=@Nat.lt_trans
abbrev Kq:=@List.take_of_length_le
end
namespace L2
open PySem PySem.Spec PyProof.Rows
abbrev Key:=Sum Int Str
def xg:Key->Value->Bool
 | .inl k,v=>Value.isInt k v
 | .inr x,v=>Value.isStrOf x v
def aam (w:World):Key->Int
 | .inl k=>hashInt k
 | .inr x=>hashStr w x
theorem cQ:∀{k:Key} {v:Value},xg k v=true->(∃i t,k=Sum.inl i/\v=Value.int i t)\/(∃x t,k=Sum.inr x/\v=Value.str x t)
 | .inl i,v,h=>by
  obtain⟨t,e⟩:=Value.isInt_shape (k:=i) (v:=v) h;exact .inl ⟨i,t,rfl,e⟩
 | .inr x,v,h=>by
  obtain⟨t,e⟩:=Value.isStrOf_shape (x:=x) (v:=v) h;exact .inr ⟨x,t,rfl,e⟩
theorem Iu (i:Int) (t:Tok):xg (.inl i) (.int i t)=true:=by simp[xg,Value.isInt]
theorem Ir (x:Str) (t:Tok):xg (.inr x) (.str x t)=true:=by simp[xg,Value.isStrOf]
theorem Ti (a b:Int):decide ((Sum.inl a:Key)=Sum.inl b)=(a==b):=by
 by_cases e:a=b
 ·subst e; simp
 ·have h:¬(Sum.inl a:Key)=Sum.inl b:=fun q=>e (Sum.inl.inj q);rw[lG h];exact(beq_eq_false_iff_ne.mpr e).symm
theorem Tf (a b:Str):decide ((Sum.inr a:Key)=Sum.inr b)=decide (a=b):=by
 by_cases e:a=b
 ·subst e; simp
 ·have h:¬(Sum.inr a:Key)=Sum.inr b:=fun q=>e (Sum.inr.inj q);rw[lG h,lG e]
theorem Th (a:Int) (b:Str):decide ((Sum.inl a:Key)=Sum.inr b)=false:=lG (fun q=>nomatch q)
theorem Tg (a:Str) (b:Int):decide ((Sum.inr a:Key)=Sum.inl b)=false:=lG (fun q=>nomatch q)
def dg (prog:Program) (w:World):PySem.KeyKind prog w Key where
 is:=xg
 hash:=aam w
 inj:=fun v a b ha hb=>by
  rcases cQ ha with⟨i,t,rfl,rfl⟩ | ⟨x,t,rfl,rfl⟩
  ·rcases cQ hb with⟨j,u,rfl,e⟩ | ⟨y,u,rfl,e⟩
   ·injection e with e1 _; rw[e1]
   ·exact nomatch e
  ·rcases cQ hb with⟨j,u,rfl,e⟩ | ⟨y,u,rfl,e⟩
   ·exact nomatch e
   ·injection e with e1 _; rw[e1]
 byValue:=fun k v h=>by
  rcases cQ h with⟨i,t,rfl,rfl⟩ | ⟨x,t,rfl,rfl⟩ <;> rfl
 pyHash:=fun hv h=>by
  rcases cQ hv with⟨i,t,rfl,rfl⟩ | ⟨x,t,rfl,rfl⟩
  ·exact wpAny_pyHash_int h
  ·exact wpAny_pyHash_str h
 eqBool:=fun hu hv h=>by
  rcases cQ hu with⟨i,t,rfl,rfl⟩ | ⟨x,t,rfl,rfl⟩
  ·rcases cQ hv with⟨j,u,rfl,rfl⟩ | ⟨y,u,rfl,rfl⟩
   ·rw[Ti] at h; exact wpAny_eqBool_int h
   ·rw[Th] at h; exact SeqAt.EqAt.int_str i t y u _ _ _ _ h
  ·rcases cQ hv with⟨j,u,rfl,rfl⟩ | ⟨y,u,rfl,rfl⟩
   ·rw[Tg] at h; exact SeqAt.EqAt.str_int x t j u _ _ _ _ h
   ·rw[Tf] at h; exact wpAny_eqBool_str h
 «strs»:=fun k x t v h=>by
  rcases cQ h with⟨i,u,rfl,e⟩ | ⟨y,u,rfl,e⟩
  ·exact nomatch e
  ·injection e with e1 _
   subst e1;cases v <;> rfl
theorem Bw (prog:Program) (w:World) (i:Int) (t:Tok):(dg prog w).is (.inl i) (.int i t)=true:=Iu i t
theorem Bv (prog:Program) (w:World) (x:Str) (t:Tok):(dg prog w).is (.inr x) (.str x t)=true:=Ir x t
inductive V where
 | non | bl (b:Bool) | int (i:Int) | str (x:Str) | Jm (b:Array UInt8) | flt (b:UInt64) | ref (a:Addr) | ty (n:String)
 deriving DecidableEq
def RelV:V->Value->Prop
 | .non,u=>u=Value.none
 | .bl b,u=>u=Value.bool b
 | .int i,u=>∃t,u=Value.int i t
 | .str x,u=>∃t,u=Value.str x t
 | .Jm b,u=>∃t,u=Value.bytes b t
 | .flt b,u=>∃t,u=Value.float b t
 | .ref a,u=>u=Value.ref a
 | .ty n,u=>u=Value.type n
abbrev Vals:List V->List Value->Prop:=Paired RelV
theorem Vals.length {xs:List V} {us:List Value} (r:Vals xs us):xs.length=us.length:=Paired.length r
theorem Vals.get:∀{xs:List V} {us:List Value} {i:Nat} {x:V},Vals xs us->xs[i]?=some x->∃u,us[i]?=some u/\RelV x u
 | _,_,_,_,.nil,e=>by simp at e
 | _,_,0,_,.cons r _,e=>by simp at e; subst e; exact⟨_,rfl,r⟩
 | _,_,i+1,x,.cons _ t,e=>by
  obtain⟨u,h1,h2⟩:=Vals.get (i:=i) (x:=x) t (by simpa using e)
  exact⟨u,by simpa using h1,h2⟩
theorem Vals.set {x:V} {u:Value} (r:RelV x u):∀{xs:List V} {us:List Value} (i:Nat),Vals xs us->Vals (xs.set i x) (us.set i u)
 | _,_,_,.nil=>.nil
 | _,_,0,.cons _ t=>.cons r t
 | _,_,i+1,.cons q t=>.cons q (Vals.set r i t)
theorem Vals.append:∀{xs ys:List V} {us ws:List Value},Vals xs us->Vals ys ws->Vals (xs++ys) (us++ws)
 | _,_,_,_,.nil,s=>s
 | _,_,_,_,.cons r t,s=>.cons r (Vals.append t s)
theorem Vals.take:∀{xs:List V} {us:List Value} (n:Nat),Vals xs us->Vals (xs.take n) (us.take n)
 | _,_,0,_=>.nil
 | _,_,_+1,.nil=>.nil
 | _,_,n+1,.cons r t=>.cons r (Vals.take n t)
theorem Vals.drop:∀{xs:List V} {us:List Value} (n:Nat),Vals xs us->Vals (xs.drop n) (us.drop n)
 | _,_,0,r=>r
 | _,_,_+1,.nil=>.nil
 | _,_,n+1,.cons _ t=>Vals.drop n t
def m8:Option V->Option Value->Prop
 | some v,some u=>RelV v u
 | none,none=>True
 | _,_=>False
def KV {κ:Type}:List (κ×V)->List (κ×Value)->Prop:=Paired fun(p:κ×V) (q:κ×Value)=>p.1=q.1/\RelV p.2 q.2
def kV:Key->V
 | .inl i=>.int i
 | .inr x=>.str x
inductive HO where
 | lst (xs:List V)
 | tup (xs:List V)
 | dK (kvs:List (Key×V)) | dT (kvs:List (List Key×V))
 | set (S:Int->Bool) (n:Nat)
 | ins (C dx:Addr) (fs:List (Str×V))
 | own (x:Addr)
 | xd (fs:List (Str×V))
 | met (f x:Addr)
 | Wj (lo hi:Int)
 | rG (o:Obj) (u:HO)
 | Ru (ps:Array Value)
 | ext (φ:Heap->Prop)
abbrev Hp:=Addr->Option HO
def upd (H:Hp) (a:Addr) (o:HO):Hp:=fun b=>if b=a then some o else H b
theorem aA {H:Hp} {a:Addr} {o:HO}:upd H a o a=some o:=by unfold upd; rw[a_ rfl]
theorem aJ {H:Hp} {a b:Addr} {o:HO} (h:b≠a):upd H a o b=H b:=by unfold upd; rw[aV h]
theorem Fp {H:Hp} {a:Addr} {o u:HO}:upd (upd H a o) a u=upd H a u:=by
 funext b; unfold upd; split <;> rfl
theorem WY {H:Hp} {a b:Addr} {o u:HO} (h:H a=some o) (h':H b=some u) (d:o≠u):a≠b:=by
 intro e; subst e; rw[h] at h'; exact d (Option.some.inj h')
theorem cC {H:Hp} {a b:Addr} {o:HO} (h:H a=some o) (h':H b=none):a≠b:=by
 intro e; subst e; rw[h] at h'; cases h'
section
variable (P:Program) (w:World)
def cN (H:Hp) (h:Heap) (a:Addr):HO->Prop
 | .lst xs=>xs.length<=sizeLine/\∃(its:List Value) (n:Nat),Vals xs its/\h.get? a=some { cls:=.type "list",data:=.seq its.toArray n }
 | .tup xs=>xs.length<=sizeLine/\∃its:List Value,Vals xs its/\IsTup h a its.toArray
 | .dK kvs=>kvs.length<=sizeLine/\(a==sysModules)=false/\∃vs,KV kvs vs/\h.DictOf (dg P w) a vs
 | .dT kvs=>kvs.length<=sizeLine/\(a==sysModules)=false/\∃xs:List (List Key×Addr×Value),
   Paired (fun(p:List Key×V) (q:List Key×Addr×Value)=>p.1=q.1/\H q.2.1=some (.tup (p.1.map kV))/\RelV p.2 q.2.2) kvs xs /\
   ∃o es ep,h.get? a=some o/\o.ExactDict/\o.data=.dict es ep/\es.toList=xs.map (entryOfKey (tupleKind (dg P w)))/\(xs.map (·.1)).Nodup
 | .set S n=>h.SetOf (intKind P w) a S n
 | .ins C dx fs=>H dx=some (.own a)/\fs.length<=1000/\dx≠a/\h.get? a=some (PySem.W.instObj C dx) /\
   ∃mA,h.Ns1 dx mA/\(∀f,m8 (fs.lookup f) (mA f))/\PySem.Within mA (fs.map (·.1))
 | .own _=>∃o,h.get? a=some o
 | .xd fs=>∃mA,h.Ns1 a mA/\∀f,m8 (fs.lookup f) (mA f)
 | .Wj lo hi=>∃t u v,h.get? a=some { cls:=.type "range",data:=.fields #[.int lo t,.int hi u,.int 1 v] }
 | .rG o u=>h.get? a=some o/\cN H h a u
 | .Ru ps=>h.get? a=some { cls:=.none,data:=.fields ps }
 | .met f x=>h.get? a=some (PySem.W.methodObj (.ref f) (.ref x))
 | .ext φ=>φ h/\(∃o,h.get? a=some o)/\∀h1 h2:Heap,φ h1->(∀o,h1.get? a=some o->h2.get? a=some o)->φ h2
def mq (H:Hp) (h:Heap):Prop:=∀a o,H a=some o->cN P w H h a o
end
section
variable {P:Program} {w:World} {H H':Hp} {h h':Heap} {a:Addr} {o:HO}
theorem cN.lt (x:cN P w H h a o):a<h.objs.size:=by
 cases o with
 | lst xs=>obtain⟨_,_,_,_,e⟩:=x; exact b8 e
 | tup xs=>obtain⟨_,_,_,p⟩:=x; exact p.lt
 | dK kvs=>obtain⟨_,_,_,_,o,_,_,e,_⟩:=x; exact b8 e
 | dT kvs=>obtain⟨_,_,_,_,o,_,_,e,_⟩:=x; exact b8 e
 | set S n=>obtain⟨o,_,_,_,e,_⟩:=x; exact b8 e
 | ins C dx fs=>obtain⟨_,_,_,e,_⟩:=x; exact b8 e
 | own y=>obtain⟨_,e⟩:=x; exact b8 e
 | xd fs=>obtain⟨_,⟨_,_,_,e,_⟩,_⟩:=x; exact b8 e
 | Wj lo hi=>obtain⟨_,_,_,e⟩:=x; exact b8 e
 | rG ob u=>obtain⟨e,_⟩:=x; exact b8 e
 | Ru ps=>exact b8 (show h.get? a=some _ from x)
 | met f y=>exact b8 (show h.get? a=some _ from x)
 | ext φ=>obtain⟨_,⟨_,e⟩,_⟩:=x; exact b8 e
theorem Paired.S7 {α β:Type} {F G:α->β->Prop}:∀{l₁:List α} {l₂:List β},Paired F l₁ l₂->(∀a b,F a b->G a b)->Paired G l₁ l₂
 | _,_,.nil,_=>.nil
 | _,_,.cons r t,f=>.cons (f _ _ r) (Paired.S7 t f)
theorem cN.stay (x:cN P w H h a o) (k:∀b u,(b=a\/H b=some (.own a))->h.get? b=some u->h'.get? b=some u)
  (ho:∀b,H b=some (.own a)->H' b=some (.own a)) (ht:∀b xs,H b=some (.tup xs)->H' b=some (.tup xs)):cN P w H' h' a o:=by
 induction o with
 | lst xs=>obtain⟨z,its,n,r,e⟩:=x; exact⟨z,its,n,r,k _ _ (.inl rfl) e⟩
 | tup xs=>obtain⟨z,its,r,ob,e,c⟩:=x; exact⟨z,its,r,ob,k _ _ (.inl rfl) e,c⟩
 | dK kvs=>obtain⟨z,y,vs,r,ob,es,ep,e,c⟩:=x; exact⟨z,y,vs,r,ob,es,ep,k _ _ (.inl rfl) e,c⟩
 | dT kvs=>
  obtain⟨z,y,xs,r,ob,es,ep,e,c⟩:=x;exact⟨z,y,xs,Paired.S7 r fun p q z=>⟨z.1,ht _ _ z.2.1,z.2.2⟩,ob,es,ep,k _ _ (.inl rfl) e,c⟩
 | set S n=>obtain⟨ob,es,ep,t,e,c⟩:=x; exact⟨ob,es,ep,t,k _ _ (.inl rfl) e,c⟩
 | ins C dx fs=>
  obtain⟨d,z,ne,e,mA,⟨od,es,ep,e2,c⟩,r⟩:=x;exact⟨ho _ d,z,ne,k _ _ (.inl rfl) e,mA,⟨od,es,ep,k _ _ (.inr d) e2,c⟩,r⟩
 | own y=>obtain⟨ob,e⟩:=x; exact⟨ob,k _ _ (.inl rfl) e⟩
 | xd fs=>obtain⟨mA,⟨od,es,ep,e,c⟩,r⟩:=x; exact⟨mA,⟨od,es,ep,k _ _ (.inl rfl) e,c⟩,r⟩
 | Wj lo hi=>obtain⟨t,u,v,e⟩:=x; exact⟨t,u,v,k _ _ (.inl rfl) e⟩
 | rG ob u ih=>obtain⟨e,q⟩:=x; exact⟨k _ _ (.inl rfl) e,ih q⟩
 | Ru ps=>
  have e:h.get? a=some { cls:=.none,data:=.fields ps }:=x;show h'.get? a=some { cls:=.none,data:=.fields ps };exact k a _ (.inl rfl) e
 | met f y=>
  have e:h.get? a=some (PySem.W.methodObj (.ref f) (.ref y)):=x;show h'.get? a=some (PySem.W.methodObj (.ref f) (.ref y));exact k a _ (.inl rfl) e
 | ext φ=>obtain⟨p,⟨o,e⟩,st⟩:=x; exact⟨st _ _ p fun o q=>k _ _ (.inl rfl) q,⟨o,k _ _ (.inl rfl) e⟩,st⟩
theorem mq.lt (x:mq P w H h) (e:H a=some o):a<h.objs.size:=(x a o e).lt
theorem mq.fresh (x:mq P w H h) (e:h.objs.size<=a):H a=none:=by
 cases q:H a with
 | none=>rfl
 | some u=>exact absurd (mX (x.lt q) e) (rN _)
theorem mq.kept (x:mq P w H h) (k:∀b u,h.get? b=some u->h'.get? b=some u):mq P w H h':=fun a o e=>
 (x a o e).stay (fun b u _ q=>k b u q) (fun _ q=>q) fun _ _ q=>q
theorem mq.laid (x:mq P w H h) (k:∀b u,h.get? b=some u->h'.get? b=some u) (hp:h.objs.size<=a) (new:cN P w (upd H a o) h' a o):mq P w (upd H a o) h':=fun b u e=>by
 have hn:=x.fresh hp;by_cases hb:b=a
 ·subst hb; rw[aA] at e; cases e; exact new
 ·rw[aJ hb] at e;exact(x b u e).stay (fun c v _ q=>k c v q) (fun c q=>by rw[aJ (cC q hn)]; exact q) fun c xs q=>by rw[aJ (cC q hn)]; exact q
end
def Rd (H:Hp) (a:Addr) (u:HO):Prop:=H a=some u\/∃o,H a=some (.rG o u)
theorem Rd.ok {P:Program} {w:World} {H:Hp} {h:Heap} {a:Addr} {u:HO} (r:Rd H a u) (x:mq P w H h):cN P w H h a u:=by
 rcases r with r | ⟨o,r⟩
 ·exact x a u r
 ·obtain⟨_,q⟩:=x a _ r;exact q
def X3:Option HO->Prop
 | some (.lst _)=>True
 | some (.dK _)=>True
 | some (.dT _)=>True
 | some (.set _ _)=>True
 | some (.ins _ _ _)=>True
 | some (.ext _)=>True
 | _=>False
section
variable {P:Program} {w:World} {H:Hp} {h h':Heap} {x e:Addr} {o':HO}
theorem mq.write (ok:mq P w H h) (mu:X3 (H x)) (he:e=x\/H e=some (.own x)) (k:∀b u,b≠e->h.get? b=some u->h'.get? b=some u) (heo:∃u,h'.get? e=some u)
  (new:cN P w (upd H x o') h' x o'):mq P w (upd H x o') h':=fun b u q=>by
 have WT:∀c y,H c=some (.own y)->c≠x:=fun c y r z=>by subst z; rw[r] at mu; exact mu
 have aah:∀c xs,H c=some (.tup xs)->c≠x:=fun c xs r z=>by subst z; rw[r] at mu; exact mu
 by_cases hb:b=x
 ·subst hb; rw[aA] at q; cases q; exact new
 ·rw[aJ hb] at q;by_cases hbe:b=e
  ·have q':H b=some (.own x):=by
    rcases he with z | z
    ·exact absurd (hbe.trans z) hb
    ·rw[hbe]; exact z
   rw[q] at q'; cases q';obtain⟨v,hv⟩:=heo;exact⟨v,by rw[hbe]; exact hv⟩
  ·refine(ok b u q).stay (fun c v hc r=>k c v ?_ r) (fun c r=>by rw[aJ (WT c b r)]; exact r) fun c xs r=>by rw[aJ (aah c xs r)]; exact r
   rcases hc with rfl | hc
   ·exact hbe
   ·rintro rfl;rcases he with z | z
    ·exact WT c b hc z
    ·rw[hc] at z; cases z; exact hb rfl
end
structure Un (fs ex:List Addr) (H H':Hp) (h h':Heap):Prop where
 keep:∀b o,h.get? b=some o->H b=none->b∉fs->b∉ex->h'.get? b=some o
 slot:∀b o,h.get? b=some o->H b=none->b∈fs->b∉ex->∃sl,h'.get? b=some { o with slots:=sl }
 free:∀b o,h.get? b=some o->H b=none->b∉ex->H' b=none
 there:∀b o,h.get? b=some o->b∉ex->∃o',h'.get? b=some o'
 tups:∀b xs,H b=some (.tup xs)->H' b=some (.tup xs)
 vf:∀b o u,H b=some (.rG o u)->H' b=some (.rG o u)
 xY:∀b ps,H b=some (.Ru ps)->∃more,H' b=some (.Ru (ps++more))
section
variable {fs fs' ex ex':List Addr} {H H1 H2:Hp} {h h1 h2 h':Heap} {a x e:Addr} {o:HO}
theorem Un.any (u:Un fs ex H H1 h h1) {b:Addr} {ob:Obj} (q:h.get? b=some ob) (n:H b=none) (hx:b∉ex):∃sl,h1.get? b=some { ob with slots:=sl }:=by
 by_cases hb:b∈fs
 ·exact u.slot b ob q n hb hx
 ·exact⟨ob.slots,u.keep b ob q n hb hx⟩
theorem Un.kept (k:∀b u,h.get? b=some u->h'.get? b=some u):Un fs ex H H h h':=
 ⟨fun b ob q _ _ _=>k b ob q,fun b ob q _ _ _=>⟨ob.slots,k b ob q⟩,fun _ _ _ n _=>n,fun b ob q _=>⟨ob,k b ob q⟩,fun _ _ q=>q,fun _ _ _ q=>q,fun _ ps q=>⟨#[],by rw[q]; simp⟩⟩
theorem Un.refl:Un fs ex H H h h:=Un.kept fun _ _ q=>q
theorem Un.laid (k:∀b u,h.get? b=some u->h'.get? b=some u) (hp:h.objs.size<=a) (hn:H a=none):Un fs ex H (upd H a o) h h' where
 keep:=fun b u q _ _ _=>k b u q
 slot:=fun b u q _ _ _=>⟨u.slots,k b u q⟩
 free:=fun b u q n _=>by rw[aJ (dM (mX (b8 q) hp))]; exact n
 there:=fun b u q _=>⟨u,k b u q⟩
 tups:=fun b xs q=>by rw[aJ (cC q hn)]; exact q
 vf:=fun b u xs q=>by rw[aJ (cC q hn)]; exact q
 xY:=fun b ps q=>⟨#[],by rw[aJ (cC q hn),q]; simp⟩
theorem Un.write (mu:X3 (H x)) (he:e=x\/H e=some (.own x)) (k:∀b u,b≠e->h.get? b=some u->h'.get? b=some u) (heo:∃u,h'.get? e=some u):Un fs ex H (upd H x o) h h':=by
 have hx:∀b,H b=none->b≠x:=fun b n z=>by subst z; rw[n] at mu; exact mu
 have hb:∀b,H b=none->b≠e:=fun b n z=>by
  subst z;rcases he with r | r
  ·exact hx b n r
  ·rw[n] at r; cases r
 have hm:∀b u,H b=some u->¬X3 (some u)->b≠x:=fun b u q nm z=>by subst z; rw[q] at mu; exact nm mu
 refine⟨fun b u q n _ _=>k b u (hb b n) q,fun b u q n _ _=>⟨u.slots,k b u (hb b n) q⟩,fun b u q n _=>by rw[aJ (hx b n)]; exact n,fun b u q _=>?_,
  fun b xs q=>by rw[aJ (hm b _ q fun z=>z)]; exact q,fun b u xs q=>by rw[aJ (hm b _ q fun z=>z)]; exact q,fun b ps q=>⟨#[],by rw[aJ (hm b _ q fun z=>z),q]; simp⟩⟩
 by_cases hbe:b=e
 ·subst hbe; exact heo
 ·exact⟨u,k b u hbe q⟩
end
def Ye (h:Heap) (H:Hp):List Addr:=(List.range h.objs.size).filter fun a=>(H a).isSome
def zf (h:Heap) (H:Hp):Heap:=PySem.W.hideAll h (Ye h H)
theorem IV (h:Heap) (H:Hp):(zf h H).objs.size=h.objs.size:=PySem.W.hideAll_size _ _
theorem Lr {h:Heap} {H:Hp} {b:Addr} {o:Obj} (e:h.get? b=some o) (n:H b=none):(zf h H).get? b=some o:=
 PySem.W.hideAll_get _ e fun hm=>by
  have q:(H b).isSome=true:=(List.mem_filter.mp hm).2;rw[n] at q; simp at q
theorem Pa {h:Heap} {H:Hp} {b:Addr} {o:Obj} (e:(zf h H).get? b=some o):h.get? b=some o/\H b=none:=by
 have e':h.get? b=some o:=PySem.W.of_hideAll (Ye h H) e;refine⟨e',?_⟩;cases q:H b with
 | none=>rfl
 | some x=>
  have hm:b∈Ye h H:=List.mem_filter.mpr ⟨List.mem_range.mpr (b8 e'),by simp[q]⟩
  have z:(zf h H).get? b=none:=PySem.W.hideAll_none (Ye h H) hm;rw[z] at e; cases e
def Qn (g h:Heap) (L:Addr):List (Addr×Obj):=(List.range h.objs.size).filterMap fun a=>if a=L\/(g.get? a).isSome=true then none else(h.get? a).map fun o=>(a,o)
def rest (g h:Heap) (L d:Addr):List (Addr×Obj):=(Qn g h L).filter fun p=>decide (p.1≠d)
structure Mod (K:PySem.W.Frag) (mg:Str->Option Value) (base:Heap):Prop where
 Te:K.In base
 glob:base.Ns mainGlobals mg
 blt:∃mb,base.Ns builtinsNs mb/\∀x:Str,x ≠ "__name__" -> mb x=bootBuiltins x
 nolimit:base.NoLimit
structure Cx where
 prog:Program
 w:World
 K:PySem.W.Frag
 mg:Str->Option Value
 base:Heap
 A:Around
 N:List Str
 s₀:Shared
 H₀:Hp
 env:Env
 outer:List Env
 stack:List Env
 ex:List Addr
 fn:Str->Bool
 calm:Bool
 pn:List (Addr×Obj)
 xe:Value->Shared->Prop
def frs (l:List Env):List Addr:=l.filterMap (·.frame)
abbrev Cx.fs (X:Cx):List Addr:=frs X.outer
def Y9 (sc:Scope) (x:Str):Prop:=sc.names.lookup x=some .local\/sc.names.lookup x=some .cell\/sc.names.lookup x=some .free
def Loc (sc:Scope) (x:Str):Prop:=sc.names.lookup x=some .local\/sc.names.lookup x=some .cell
def Look (env:Env) (h:Heap) (m:Str->Option Value) (x:Str) (u:Value):Prop:=
 (env.kindOf x=some .local/\m x=some u)\/((env.kindOf x=some .cell\/env.kindOf x=some .free)/\∃c,env.cells.lookup x=some c/\h.IsCell c (some u))
structure Cx.Ok (X:Cx):Prop where
 mod:Mod X.K X.mg X.base
 kind:X.env.scope.kind=.function
 glob:X.env.globals=mainGlobals
 blt:X.env.builtins=builtinsNs
 above:X.s₀.heap.objs.size<=X.env.locals
 inj:∀x y c,X.env.cells.lookup x=some c->X.env.cells.lookup y=some c->x=y
 has:∀x,(X.env.kindOf x=some .cell\/X.env.kindOf x=some .free)->∃c,X.env.cells.lookup x=some c
 cab:∀x c,X.fn x=true->X.env.cells.lookup x=some c->X.s₀.heap.objs.size<=c
 hd:X.calm=true->X.A.handled=none
 frames:X.A.frames=some X.stack
 Yk:X.stack=X.outer\/(X.stack=X.env::X.outer/\X.env.frame=some X.env.locals)
 YM:∀b∈X.ex,b≠X.env.locals/\∀x c,X.env.cells.lookup x=some c->c≠b
 bs:∀b o,X.base.get? b=some o->X.s₀.heap.get? b=some o/\X.H₀ b=none
 My:X.base.objs.size<=X.s₀.heap.objs.size
 Ii:∀b o,X.base.get? b=some o->b∉X.ex
 Jf:∀b∈X.ex,b∉X.fs
 sr:X.s₀.heap.FunFrames X.base X.outer
 TQ:∀b∈X.fs,X.H₀ b=none
structure Inv (X:Cx) (pins:List (Addr×Obj)) (σ:List (Option V)) (H:Hp) (s:Shared):Prop where
 ok:X.Ok
 os:s.os=X.s₀.os
 bare:AllBare s.gens
 base:Un X.fs X.ex X.H₀ H X.s₀.heap s.heap
 loc:∃m,s.heap.Ns X.env.locals m/\∀(i:Nat) (x:Str) (v:V),X.N[i]?=some x->σ[i]?=some (some v)->Y9 X.env.scope x->∃u,RelV v u/\Look X.env s.heap m x u
 cell:∀x c,X.env.cells.lookup x=some c->∃v,s.heap.IsCell c v
 free:H X.env.locals=none
 jN:∀x c,X.env.cells.lookup x=some c->H c=none
 pin:∀p∈X.pn++pins,s.heap.get? p.1=some p.2/\H p.1=none/\p.1≠X.env.locals/\p.1∉X.fs/\∀v,p.2.data≠.cell v
 hok:mq X.prog X.w H s.heap
 len:σ.length=X.N.length
section
variable {X:Cx} {pins:List (Addr×Obj)} {σ:List (Option V)} {H H':Hp} {s:Shared} {h':Heap}
theorem Cx.Ok.aaj (ok:X.Ok) {b:Addr} {o:Obj} (e:X.base.get? b=some o):b∉X.fs:=fun hb=>by
 have:=(ok.sr.mem hb).1;rw[e] at this; cases this
theorem Inv.bs (I:Inv X pins σ H s):∀b o,X.base.get? b=some o->s.heap.get? b=some o/\H b=none:=fun b o e=>
 ⟨I.base.keep b o (I.ok.bs b o e).1 (I.ok.bs b o e).2 (I.ok.aaj e) (I.ok.Ii b o e),I.base.free b o (I.ok.bs b o e).1 (I.ok.bs b o e).2 (I.ok.Ii b o e)⟩
theorem Inv.bk (I:Inv X pins σ H s):∀b o,X.base.get? b=some o->s.heap.get? b=some o:=fun b o e=>(I.bs b o e).1
theorem Inv.mod (I:Inv X pins σ H s):Mod X.K X.mg X.base:=I.ok.mod
theorem Inv.rY (I:Inv X pins σ H s):X.K.In s.heap:=I.ok.mod.Te.keeps I.bk
theorem Inv.fr (I:Inv X pins σ H s):∃m,Fr X.base X.env.locals s.heap m:=
 let ⟨m,hn,_⟩:=I.loc
 ⟨m,hn,I.bk,kj I.ok.My I.ok.above⟩
theorem Inv.lt (I:Inv X pins σ H s):X.env.locals<s.heap.objs.size:=let ⟨_,hn,_⟩:=I.loc; hn.lt
theorem Inv.sz (I:Inv X pins σ H s):X.s₀.heap.objs.size<=s.heap.objs.size:=kj I.ok.above (pH I.lt)
theorem Inv.aai (I:Inv X pins σ H s) {a:Addr} (h:s.heap.objs.size<=a):a∉X.fs:=fun hb=>by
 obtain⟨_,o,ho,_⟩:=I.ok.sr.mem hb;exact absurd (mX (b8 ho) (kj I.sz h)) (rN _)
theorem Inv.Uh (I:Inv X pins σ H s):∀x c,X.env.cells.lookup x=some c->c≠X.env.locals:=fun x c e z=>by
 obtain⟨v,o,ho,hd⟩:=I.cell x c e;obtain⟨m,⟨o',es,ep,ho',hd',_⟩,_⟩:=I.loc;rw[z,ho'] at ho; cases ho; rw[hd'] at hd; cases hd
theorem Inv.sr (I:Inv X pins σ H s):s.heap.FunFrames X.base X.outer:=by
 have all:∀(l:List Env),(∀b∈frs l,b∈X.fs)->X.s₀.heap.FunFrames X.base l->s.heap.FunFrames X.base l:=by
  intro l
  induction l with
  | nil=>intro _ _; trivial
  | cons env r ih=>
   intro hs hl;obtain⟨hk,⟨L,o,hf,hn,ho,hd⟩,hr⟩:=hl;have hL:L∈X.fs:=hs L (by unfold frs; rw[List.filterMap_cons,hf]; exact nZ)
   obtain⟨sl,e⟩:=I.base.slot L o ho (I.ok.TQ L hL) hL fun z=>I.ok.Jf L z hL;exact⟨hk,⟨L,_,hf,hn,e,hd⟩,ih (fun b hb=>hs b (by unfold frs; rw[List.filterMap_cons,hf]; exact n_ _ hb)) hr⟩
 exact all X.outer (fun _ hb=>hb) I.ok.sr
theorem Inv.stack (I:Inv X pins σ H s):s.heap.FunFrames X.base X.stack:=by
 rcases I.ok.Yk with e | ⟨e,hf⟩
 ·rw[e]; exact I.sr
 ·rw[e];obtain⟨m,hn,_⟩:=I.loc;refine .cons (by rw[I.ok.kind]; decide) hf hn ?_ I.sr
  exact Heap.get?_none_of_le (kj I.ok.My I.ok.above)
theorem Inv.De (I:Inv X pins σ H s):∀b∈frs X.stack,b∈X.env.locals::X.fs:=fun b hb=>by
 rcases I.ok.Yk with e | ⟨e,hf⟩
 ·rw[e] at hb; exact n_ _ hb
 ·rw[e] at hb;unfold frs at hb;rw[List.filterMap_cons,hf] at hb;exact hb
theorem Inv.Fx (I:Inv X pins σ H s):∀b∈frs X.stack,H b=none:=fun b hb=>by
 rcases d_.mp (I.De b hb) with e | hb
 ·rw[e]; exact I.free
 ·obtain⟨_,o,ho,_⟩:=I.ok.sr.mem hb;exact I.base.free b o ho (I.ok.TQ b hb) fun z=>I.ok.Jf b z hb
theorem Inv.step {g':Array GenState} {t':Nat} {d':Drawn} {ch:List Addr} (I:Inv X pins σ H s)
  (hch:∀b∈ch,(b∈X.ex\/X.s₀.heap.objs.size<=b)/\b≠X.env.locals/\(∀x c,X.env.cells.lookup x=some c->c≠b)/\∀p∈X.pn++pins,p.1≠b)
  (keep:∀b o,b≠X.env.locals->b∉X.fs->b∉ch->s.heap.get? b=some o->H b=none->h'.get? b=some o)
  (slot:∀b o,b≠X.env.locals->b∈X.fs->b∉ch->s.heap.get? b=some o->H b=none->∃sl,h'.get? b=some { o with slots:=sl }) (free:∀b o,b∉ch->s.heap.get? b=some o->H b=none->H' b=none)
  (there:∀b o,b∉ch->s.heap.get? b=some o->∃o',h'.get? b=some o')
  (tups:∀b xs,H b=some (.tup xs)->H' b=some (.tup xs)) (vf:∀b o u,H b=some (.rG o u)->H' b=some (.rG o u)) (xY:∀b ps,H b=some (.Ru ps)->∃more,H' b=some (.Ru (ps++more)))
  (ns:∀m,s.heap.Ns X.env.locals m->h'.Ns X.env.locals m) (hok:mq X.prog X.w H' h') (hg:AllBare g') :
  Inv X pins σ H' { s with heap:=h',gens:=g',drawn:=d',toks:=t' }:=by
 have neL:∀b o,X.s₀.heap.get? b=some o->b≠X.env.locals:=fun b o e=>dM (mX (b8 e) I.ok.above)
 have Ys:∀b o,X.s₀.heap.get? b=some o->b∉X.ex->b∉ch:=fun b o e hx hb=>by
  rcases(hch b hb).1 with z | z
  ·exact hx z
  ·exact absurd (mX (b8 e) z) (rN _)
 have cellK:∀x c,X.env.cells.lookup x=some c->∀v,s.heap.IsCell c v->h'.IsCell c v:=fun x c e v ⟨o,ho,hd⟩=>by
  have W2:c∉ch:=fun z=>(hch c z).2.2.1 x c e rfl;by_cases hc:c∈X.fs
  ·obtain⟨sl,q⟩:=slot c o (I.Uh x c e) hc W2 ho (I.jN x c e);exact⟨_,q,hd⟩
  ·exact⟨o,keep c o (I.Uh x c e) hc W2 ho (I.jN x c e),hd⟩
 refine⟨I.ok,I.os,hg,⟨fun b o e n hb hx=>?_,fun b o e n hb hx=>?_,fun b o e n hx=>?_,fun b o e hx=>?_,fun b xs e=>tups b xs (I.base.tups b xs e),fun b o xs e=>vf b o xs (I.base.vf b o xs e),fun b ps e=>?_⟩,?_,fun x c e=>?_,?_,fun x c e=>?_,fun p hp=>?_,hok,I.len⟩
 ·exact keep b o (neL b o e) hb (Ys b o e hx) (I.base.keep b o e n hb hx) (I.base.free b o e n hx)
 ·obtain⟨sl,e1⟩:=I.base.slot b o e n hb hx;obtain⟨sl',e2⟩:=slot b _ (neL b o e) hb (Ys b o e hx) e1 (I.base.free b o e n hx);exact⟨sl',e2⟩
 ·obtain⟨o',e1⟩:=I.base.there b o e hx;exact free b o' (Ys b o e hx) e1 (I.base.free b o e n hx)
 ·obtain⟨o',e1⟩:=I.base.there b o e hx;exact there b o' (Ys b o e hx) e1
 ·obtain⟨m1,e1⟩:=I.base.xY b ps e;obtain⟨m2,e2⟩:=xY b _ e1;exact⟨m1++m2,by rw[e2,Array.append_assoc]⟩
 ·obtain⟨m,hn,hl⟩:=I.loc;refine⟨m,ns m hn,fun i x v e1 e2 e3=>?_⟩;obtain⟨u,r,l⟩:=hl i x v e1 e2 e3;refine⟨u,r,?_⟩;rcases l with l | ⟨k,c,e,z⟩
  ·exact .inl l
  ·exact .inr ⟨k,c,e,cellK x c e _ z⟩
 ·obtain⟨v,z⟩:=I.cell x c e;exact⟨v,cellK x c e v z⟩
 ·obtain⟨m,⟨o,_,_,ho,_⟩,_⟩:=I.loc;exact free _ o (fun z=>(hch _ z).2.1 rfl) ho I.free
 ·obtain⟨v,o,ho,hd⟩:=I.cell x c e;exact free c o (fun z=>(hch c z).2.2.1 x c e rfl) ho (I.jN x c e)
 ·obtain⟨e,n,ne,nf,d⟩:=I.pin p hp;have W2:p.1∉ch:=fun z=>(hch p.1 z).2.2.2 p hp rfl;exact⟨keep p.1 p.2 ne nf W2 e n,free p.1 p.2 W2 e n,ne,nf,d⟩
theorem Inv.un {t':Nat} (I:Inv X pins σ H s) (u:Un X.fs [] H H' s.heap h') (hok:mq X.prog X.w H' h'):Inv X pins σ H' { s with heap:=h',toks:=t' }:=by
 obtain⟨m,⟨o,es,ep,ho,r⟩,_⟩:=id I.loc;obtain⟨sl,hL⟩:=u.any ho I.free (by simp)
 exact I.step (g':=s.gens) (d':=s.drawn) (ch:=[]) (fun _ z=>nomatch z) (fun b o _ hb _ e n=>u.keep b o e n hb (by simp)) (fun b o _ hb _ e n=>u.slot b o e n hb (by simp)) (fun b o _ e n=>u.free b o e n (by simp)) (fun b o _ e=>u.there b o e (by simp)) u.tups u.vf u.xY (fun m' hm=>by
  obtain⟨o',es',ep',ho',r'⟩:=hm;rw[ho] at ho'; cases ho'
  exact⟨_,es',ep',hL,r'⟩) hok I.bare
theorem Inv.call {g':Array GenState} {t':Nat} {d':Drawn} {ch:List Addr} (I:Inv X pins σ H s) (u:Un (frs X.stack) ch H H' s.heap h') (hok:mq X.prog X.w H' h') (hg:AllBare g')
  (hch:∀b∈ch,(b∈X.ex\/X.s₀.heap.objs.size<=b)/\b≠X.env.locals/\(∀x c,X.env.cells.lookup x=some c->c≠b)/\∀p∈X.pn++pins,p.1≠b) :
  Inv X pins σ H' { s with heap:=h',gens:=g',drawn:=d',toks:=t' }:=by
 obtain⟨m,⟨o,es,ep,ho,r⟩,_⟩:=id I.loc;obtain⟨sl,hL⟩:=u.any ho I.free fun z=>(hch _ z).2.1 rfl
 exact I.step (ch:=ch) hch (fun b o hL hb hc e n=>u.keep b o e n (fun z=>(d_.mp (I.De b z)).elim hL hb) hc) (fun b o _ _ hc e n=>u.any e n hc) (fun b o hc e n=>u.free b o e n hc) (fun b o hc e=>u.there b o e hc) u.tups u.vf u.xY (fun m' hm=>by
  obtain⟨o',es',ep',ho',r'⟩:=hm;rw[ho] at ho'; cases ho'
  exact⟨_,es',ep',hL,r'⟩) hok hg
theorem Inv.turned {t':Nat} {it:Addr} (I:Inv X pins σ H s) (k:∀b o,b≠it->s.heap.get? b=some o->h'.get? b=some o) (hn:H it=none) (hL:it≠X.env.locals)
  (h1:it∈X.ex\/X.s₀.heap.objs.size<=it) (h2:∀x c,X.env.cells.lookup x=some c->c≠it) (h3:∀p∈X.pn++pins,p.1≠it):Inv X pins σ H { s with heap:=h',toks:=t' }:=by
 have nit:∀b u,H b=some u->b≠it:=fun b u e z=>by rw[z,hn] at e; cases e
 refine I.step (g':=s.gens) (d':=s.drawn) (ch:=[it]) (fun b hb=>?_) (fun b o _ _ hc e _=>k b o (fun z=>hc (by simp[z])) e) (fun b o _ _ hc e _=>⟨o.slots,k b o (fun z=>hc (by simp[z])) e⟩) (fun _ _ _ _ n=>n)
  (fun b o hc e=>⟨o,k b o (fun z=>hc (by simp[z])) e⟩) (fun _ _ e=>e) (fun _ _ _ e=>e) (fun b ps e=>⟨#[],by rw[e]; simp⟩) (fun m hm=>?_) (fun b u e=>?_) I.bare
 ·have e:b=it:=by simpa using hb
  subst e;exact⟨h1,hL,h2,h3⟩
 ·obtain⟨o,es,ep,ho,r⟩:=hm;exact⟨o,es,ep,k _ o (Ne.symm hL) ho,r⟩
 ·refine(I.hok b u e).stay (fun c v hc q=>k c v ?_ q) (fun _ q=>q) fun _ _ q=>q;rcases hc with z | z
  ·rw[z]; exact nit b u e
  ·exact nit c _ z
theorem Inv.tok (I:Inv X pins σ H s) (t:Nat):Inv X pins σ H { s with toks:=t }:=I.un (h':=s.heap) (t':=t) Un.refl I.hok
theorem Inv.kept {t':Nat} (I:Inv X pins σ H s) (k:∀b u,s.heap.get? b=some u->h'.get? b=some u):Inv X pins σ H { s with heap:=h',toks:=t' }:=I.un (Un.kept k) (I.hok.kept k)
theorem Inv.laid {a:Addr} {o:HO} {t':Nat} (I:Inv X pins σ H s) (k:∀b u,s.heap.get? b=some u->h'.get? b=some u) (hp:s.heap.objs.size<=a) (new:cN X.prog X.w (upd H a o) h' a o) :
  Inv X pins σ (upd H a o) { s with heap:=h',toks:=t' }:=I.un (Un.laid k hp (I.hok.fresh hp)) (I.hok.laid k hp new)
theorem Inv.write {x e:Addr} {o:HO} {t':Nat} (I:Inv X pins σ H s) (mu:X3 (H x)) (he:e=x\/H e=some (.own x)) (k:∀b u,b≠e->s.heap.get? b=some u->h'.get? b=some u) (heo:∃u,h'.get? e=some u)
  (new:cN X.prog X.w (upd H x o) h' x o):Inv X pins σ (upd H x o) { s with heap:=h',toks:=t' }:=I.un (Un.write mu he k heo) (I.hok.write mu he k heo new)
theorem Inv.weak {σ':List (Option V)} (I:Inv X pins σ H s) (hl:σ'.length=σ.length) (w:∀(i:Nat) v,σ'[i]?=some (some v)->σ[i]?=some (some v)):Inv X pins σ' H s:=
 ⟨I.ok,I.os,I.bare,I.base,let ⟨m,hn,hl'⟩:=I.loc; ⟨m,hn,fun i x v e1 e2 e3=>hl' i x v e1 (w i v e2) e3⟩,I.cell,I.free,I.jN,I.pin,I.hok,hl.trans I.len⟩
theorem Inv.Gg {QX:List (Addr×Obj)} (I:Inv X pins σ H s) (h:∀p∈QX,s.heap.get? p.1=some p.2/\H p.1=none/\p.1≠X.env.locals/\p.1∉X.fs/\∀v,p.2.data≠.cell v):Inv X QX σ H s:=
 ⟨I.ok,I.os,I.bare,I.base,I.loc,I.cell,I.free,I.jN,fun p hp=>(fC.mp hp).elim (fun z=>I.pin p (DG _ z)) (h p),I.hok,I.len⟩
theorem Bu {N:List Str} (hN:N.Nodup) {i j:Nat} {x:Str} (a:N[i]?=some x) (b:N[j]?=some x):i=j:=by
 obtain⟨h1,e1⟩:=eN.mp a;obtain⟨h2,e2⟩:=eN.mp b;exact(List.getElem_inj hN).mp (e1.trans e2.symm)
theorem Hl {M:Model} {A:Around} {E:Value->Shared->Prop} {i:Nat} {x:Str} {v:V} {u:Value} {Q:Unit->Shared->Prop} (I:Inv X pins σ H s) (hN:X.N.Nodup) (hi:X.N[i]?=some x) (hx:Loc X.env.scope x) (r:RelV v u)
  (h:∀s',Inv X pins (σ.set i (some v)) H s'->(∃a,Heap.SameBut a s.heap s'.heap/\(a=X.env.locals\/X.env.cells.lookup x=some a))->Q () s') (hf:X.fn x=true\/X.env.scope.names.lookup x=some .local:=by first | exact .inl rfl | exact .inr rfl | assumption):wpAny M A (storeName X.env x u) Q E s:=by
 obtain⟨m,hn,hl⟩:=id I.loc;have hcls:(X.env.scope.kind==.class || (X.env.scope.kind==.module&&X.env.locals != X.env.globals))=false:=by rw[I.ok.kind]; rfl
 have Xi:i<σ.length:=by rw[I.len]; exact(eN.mp hi).1
 have Uh:=I.Uh
 have tracked:∀{a:Addr} {h':Heap},(∃o,s.heap.get? a=some o/\H a=none)->Heap.SameBut a s.heap h'->mq X.prog X.w H h':=fun {a h'} ha hs b ob e=>by
  obtain⟨_,_,hfree⟩:=ha;refine(I.hok b ob e).stay (fun c w' hc q=>(hs.2 c ?_).trans q) (fun _ q=>q) fun _ _ q=>q;rintro rfl;rcases hc with rfl | hc
  ·rw[hfree] at e; cases e
  ·rw[hfree] at hc; cases hc
 rcases hx with hk | hk
 ·refine wpAny_storeName_local hk hn (fun h' hn' hs=>?_) hcls;obtain⟨oL,_,_,hoL,_⟩:=id hn;refine h _ ⟨I.ok,I.os,I.bare,⟨fun b o e n hb hx=>?_,fun b o e n hb hx=>?_,I.base.free,fun b o e hx=>?_,I.base.tups,I.base.vf,I.base.xY⟩,⟨_,hn',fun j y v' e1 e2 e3=>?_⟩,fun y c e=>?_,I.free,I.jN,fun p hp=>?_,tracked ⟨oL,hoL,I.free⟩ hs,by simpa using I.len⟩ ⟨_,hs,.inl rfl⟩
  ·exact(hs.2 b (dM (mX (b8 e) I.ok.above))).trans (I.base.keep b o e n hb hx)
  ·obtain⟨sl,e1⟩:=I.base.slot b o e n hb hx;exact⟨sl,(hs.2 b (dM (mX (b8 e) I.ok.above))).trans e1⟩
  ·obtain⟨o',e1⟩:=I.base.there b o e hx;exact⟨o',(hs.2 b (dM (mX (b8 e) I.ok.above))).trans e1⟩
  ·by_cases hj:j=i
   ·subst hj;rw[hi] at e1; cases e1;rw[List.getElem?_set_self Xi] at e2;cases e2;exact⟨u,r,.inl ⟨hk,by simp⟩⟩
   ·rw[List.getElem?_set_ne (Ne.symm hj)] at e2;obtain⟨u',r',q⟩:=hl j y v' e1 e2 e3;refine⟨u',r',?_⟩;rcases q with⟨k,e⟩ | ⟨k,c,e,z⟩
    ·refine .inl ⟨k,?_⟩;have:y≠x:=fun e=>hj (Bu hN e1 (e▸hi));simp[this,e]
    ·exact .inr ⟨k,c,e,z.sameBut hs (Uh y c e)⟩
  ·obtain⟨w',z⟩:=I.cell y c e;exact⟨w',z.sameBut hs (Uh y c e)⟩
  ·obtain⟨e,n,ne,nf,d⟩:=I.pin p hp;exact⟨(hs.2 p.1 ne).trans e,n,ne,nf,d⟩
 ·have hfn:X.fn x=true:=by
   rcases hf with z | z
   ·exact z
   ·rw[z] at hk; cases hk
  obtain⟨c,hc⟩:=I.ok.has x (.inl hk);obtain⟨w',z⟩:=I.cell x c hc;refine wpAny_storeName_cell I.ok.kind hk hc z (fun h' hc' hs=>?_);obtain⟨oc,hoc,aaw⟩:=id z;refine h { s with heap:=h' } ⟨I.ok,I.os,I.bare,⟨fun b o e n hb hx=>?_,fun b o e n hb hx=>?_,I.base.free,fun b o e hx=>?_,I.base.tups,I.base.vf,I.base.xY⟩,⟨m,hn.sameBut hs (Ne.symm (Uh x c hc)),fun j y v' e1 e2 e3=>?_⟩,fun y c' e=>?_,I.free,I.jN,fun p hp=>?_,tracked ⟨oc,hoc,I.jN x c hc⟩ hs,by simpa using I.len⟩ ⟨c,hs,.inr hc⟩
  ·exact(hs.2 b (dM (mX (b8 e) (I.ok.cab x c hfn hc)))).trans (I.base.keep b o e n hb hx)
  ·obtain⟨sl,e1⟩:=I.base.slot b o e n hb hx;exact⟨sl,(hs.2 b (dM (mX (b8 e) (I.ok.cab x c hfn hc)))).trans e1⟩
  ·obtain⟨o',e1⟩:=I.base.there b o e hx;exact⟨o',(hs.2 b (dM (mX (b8 e) (I.ok.cab x c hfn hc)))).trans e1⟩
  ·by_cases hj:j=i
   ·subst hj;rw[hi] at e1; cases e1;rw[List.getElem?_set_self Xi] at e2;cases e2;exact⟨u,r,.inr ⟨.inl hk,c,hc,hc'⟩⟩
   ·rw[List.getElem?_set_ne (Ne.symm hj)] at e2;obtain⟨u',r',q⟩:=hl j y v' e1 e2 e3;refine⟨u',r',?_⟩;rcases q with q | ⟨k,c',e,z'⟩
    ·exact .inl q
    ·refine .inr ⟨k,c',e,z'.sameBut hs ?_⟩;rintro rfl;exact hj (Bu hN e1 (I.ok.inj _ _ _ e hc▸hi))
  ·by_cases hcc:c'=c
   ·subst hcc; exact⟨_,hc'⟩
   ·obtain⟨w2,z2⟩:=I.cell y c' e;exact⟨w2,z2.sameBut hs hcc⟩
  ·obtain⟨e,n,ne,nf,d⟩:=I.pin p hp;refine⟨(hs.2 p.1 ?_).trans e,n,ne,nf,d⟩;intro q;rw[q,hoc] at e;have q':oc=p.2:=Option.some.inj e;exact d w' (by rw[<- q']; exact aaw)
theorem gC {M:Model} {A:Around} {E:Value->Shared->Prop} {i:Nat} {x:Str} {v:V} {u:Value} {Q:Unit->Shared->Prop} (I:Inv X pins σ H s) (hN:X.N.Nodup) (hi:X.N[i]?=some x) (hx:Loc X.env.scope x) (r:RelV v u)
  (h:∀s',Inv X pins (σ.set i (some v)) H s'->Q () s') (hf:X.fn x=true\/X.env.scope.names.lookup x=some .local:=by first | exact .inl rfl | exact .inr rfl | assumption):wpAny M A (storeName X.env x u) Q E s:=
 Hl I hN hi hx r (fun s' I' _=>h s' I') hf
theorem Inv.call' {s':Shared} {ch:List Addr} (I:Inv X pins σ H s) (ho:s'.os=s.os) (u:Un (frs X.stack) ch H H' s.heap s'.heap) (hok:mq X.prog X.w H' s'.heap) (hg:AllBare s'.gens)
  (hch:∀b∈ch,(b∈X.ex\/X.s₀.heap.objs.size<=b)/\b≠X.env.locals/\(∀x c,X.env.cells.lookup x=some c->c≠b)/\∀p∈X.pn++pins,p.1≠b):Inv X pins σ H' s':=by
 obtain⟨h',g',d',t',o'⟩:=s';have e:o'=s.os:=ho;subst e;exact I.call (g':=g') (t':=t') (d':=d') u hok hg hch
end
abbrev XK:=Value->Option Addr->Hp->Prop
abbrev St:=List (Option V)
abbrev VK:=V->Hp->Prop
abbrev TE:=St->Hp->VK->Prop
abbrev TT:=St->Hp->(Bool->Hp->Prop)->Prop
abbrev TA:=St->Hp->(List V->Hp->Prop)->Prop
structure Ends where
 nx:St->Hp->Prop
 rt:VK
 bk:St->Hp->Prop:=fun _ _=>False
 ct:St->Hp->Prop:=fun _ _=>False
abbrev TS:=Ends->St->Hp->Prop
def EP (X:Cx) (pins:List (Addr×Obj)) (σ:St) (Q:VK) (u:Value) (s':Shared):Prop:=∃v H',Inv X pins σ H' s'/\RelV v u/\Q v H'
def TP (X:Cx) (pins:List (Addr×Obj)) (σ:St) (Q:Bool->Hp->Prop) (b:Bool) (s':Shared):Prop:=∃H',Inv X pins σ H' s'/\Q b H'
def AP (X:Cx) (pins:List (Addr×Obj)) (σ:St) (Q:List V->Hp->Prop) (us:List Value) (s':Shared):Prop:=∃vs H',Inv X pins σ H' s'/\Vals vs us/\Q vs H'
def SP (X:Cx) (pins:List (Addr×Obj)) (D:Ends) (f:Flow) (s':Shared):Prop:=
 match f with
 | .next=>∃σ' H',Inv X pins σ' H' s'/\D.nx σ' H'
 | .brk=>∃σ' H',Inv X pins σ' H' s'/\D.bk σ' H'
 | .cont=>∃σ' H',Inv X pins σ' H' s'/\D.ct σ' H'
 | .ret u=>∃v σ' H',Inv X pins σ' H' s'/\RelV v u/\D.rt v H'
structure PE (X:Cx) (e:Expr) (t:TE):Prop where
 mk ::
 go :
 ∀(pins:List (Addr×Obj)) (s:Shared) (σ:St) (H:Hp) (Q:VK),Inv X pins σ H s->t σ H Q->wpAny (model X.prog X.w) X.A (eval e X.env) (EP X pins σ Q) X.xe s
instance {X:Cx} {e:Expr} {t:TE}:CoeFun (PE X e t) (fun _=>
 ∀(pins:List (Addr×Obj)) (s:Shared) (σ:St) (H:Hp) (Q:VK),Inv X pins σ H s->t σ H Q->wpAny (model X.prog X.w) X.A (eval e X.env) (EP X pins σ Q) X.xe s):=⟨PE.go⟩
structure PT (X:Cx) (e:Expr) (t:TT):Prop where
 mk ::
 go :
 ∀(pins:List (Addr×Obj)) (s:Shared) (σ:St) (H:Hp) (Q:Bool->Hp->Prop),Inv X pins σ H s->t σ H Q->wpAny (model X.prog X.w) X.A (isTrue e X.env (eval e X.env)) (TP X pins σ Q) X.xe s
instance {X:Cx} {e:Expr} {t:TT}:CoeFun (PT X e t) (fun _=>
 ∀(pins:List (Addr×Obj)) (s:Shared) (σ:St) (H:Hp) (Q:Bool->Hp->Prop),Inv X pins σ H s->t σ H Q->wpAny (model X.prog X.w) X.A (isTrue e X.env (eval e X.env)) (TP X pins σ Q) X.xe s):=⟨PT.go⟩
structure PW (X:Cx) (e:Expr) (t:TT):Prop where
 mk ::
 go :
 ∀(whole:Sem Value) (pins:List (Addr×Obj)) (s:Shared) (σ:St) (H:Hp) (Q:Bool->Hp->Prop),Inv X pins σ H s->t σ H Q->wpAny (model X.prog X.w) X.A (isTrue e X.env whole) (TP X pins σ Q) X.xe s
instance {X:Cx} {e:Expr} {t:TT}:CoeFun (PW X e t) (fun _=>
 ∀(whole:Sem Value) (pins:List (Addr×Obj)) (s:Shared) (σ:St) (H:Hp) (Q:Bool->Hp->Prop),Inv X pins σ H s->t σ H Q->wpAny (model X.prog X.w) X.A (isTrue e X.env whole) (TP X pins σ Q) X.xe s):=⟨PW.go⟩
theorem PW.pt {X:Cx} {e:Expr} {t:TT} (h:PW X e t):PT X e t:=.mk <| h _
structure PA (X:Cx) (es:List Expr) (t:TA):Prop where
 mk ::
 go :
 ∀(pos:Pos) (pins:List (Addr×Obj)) (s:Shared) (σ:St) (H:Hp) (Q:List V->Hp->Prop),Inv X pins σ H s->t σ H Q->wpAny (model X.prog X.w) X.A (spliced (backTo pos (starEach es X.env))) (AP X pins σ Q) X.xe s
instance {X:Cx} {es:List Expr} {t:TA}:CoeFun (PA X es t) (fun _=>
 ∀(pos:Pos) (pins:List (Addr×Obj)) (s:Shared) (σ:St) (H:Hp) (Q:List V->Hp->Prop),Inv X pins σ H s->t σ H Q->wpAny (model X.prog X.w) X.A (spliced (backTo pos (starEach es X.env))) (AP X pins σ Q) X.xe s):=⟨PA.go⟩
structure PS (X:Cx) (st:Stmt) (t:TS):Prop where
 mk ::
 go :
 ∀(pins:List (Addr×Obj)) (s:Shared) (σ:St) (H:Hp) (D:Ends),Inv X pins σ H s->t D σ H->wpAny (model X.prog X.w) X.A (exec st X.env) (SP X pins D) X.xe s
instance {X:Cx} {st:Stmt} {t:TS}:CoeFun (PS X st t) (fun _=>
 ∀(pins:List (Addr×Obj)) (s:Shared) (σ:St) (H:Hp) (D:Ends),Inv X pins σ H s->t D σ H->wpAny (model X.prog X.w) X.A (exec st X.env) (SP X pins D) X.xe s):=⟨PS.go⟩
structure Cq (X:Cx) (st:List Stmt) (t:TS):Prop where
 mk ::
 go :
 ∀(pins:List (Addr×Obj)) (s:Shared) (σ:St) (H:Hp) (D:Ends),Inv X pins σ H s->t D σ H->wpAny (model X.prog X.w) X.A (execs st X.env) (SP X pins D) X.xe s
instance {X:Cx} {st:List Stmt} {t:TS}:CoeFun (Cq X st t) (fun _=>
 ∀(pins:List (Addr×Obj)) (s:Shared) (σ:St) (H:Hp) (D:Ends),Inv X pins σ H s->t D σ H->wpAny (model X.prog X.w) X.A (execs st X.env) (SP X pins D) X.xe s):=⟨Cq.go⟩
theorem cz {α:Type} {t:Sem α} {Q Q':α->Shared->Prop} {M:Model} {A:Around} {E:Value->Shared->Prop} {s:Shared} (h:wpAny M A t Q E s) (hQ:∀a s,Q a s->Q' a s):wpAny M A t Q' E s:=mU h hQ fun _ _ x=>x
section
variable {X:Cx}
def rM (i:Nat):TE:=fun σ H Q=>match σ[i]? with
 | some (some v)=>Q v H
 | _=>False
theorem rM.ex {i:Nat} {σ:St} {H:Hp} {Q:VK} (h:rM i σ H Q):∃v,σ[i]?=some (some v)/\Q v H:=by
 unfold rM at h;split at h
 ·rename_i v e;exact⟨v,e,h⟩
 ·exact h.elim
def tC (v:V):TE:=fun _ H Q=>Q v H
theorem Sd {i:Nat} {x:Str} {pos:Pos} (hN:X.N[i]?=some x) (hv:Y9 X.env.scope x) (hd:(x==("__debug__" : Str))=false:=by decide) (hcd:(x==("__classdict__" : Str))=false:=by decide):PE X (.Name x pos) (rM i):=by
 refine .mk ?_;intro pins s σ H Q I h;obtain⟨v,e,h⟩:=rM.ex h;obtain⟨m,hn,hl⟩:=I.loc;obtain⟨u,r,l⟩:=hl i x v hN e hv;have fin:EP X pins σ Q u s:=⟨v,H,I,r,h⟩;rcases l with⟨hk,hm⟩ | ⟨hk,c,hc,hcell⟩
 ·exact wpAny_Name (wpAny_loadName_local I.ok.kind hk hn hm fin) hd
 ·rcases hk with hk | hk
  ·exact wpAny_Name (wpAny_loadName_cell I.ok.kind hk hc hcell fin) hd
  ·exact wpAny_Name (wpAny_loadName_free I.ok.kind hk hc hcell fin hcd) hd
theorem ao {i j pos}:PE X (.Constant (.int i) j pos) (tC (.int i)):=.mk <| fun _ _ _ H _ I h=>wpAny_Constant_int ⟨.int i,H,I.tok _,⟨_,rfl⟩,h⟩
theorem uL {b j pos}:PE X (.Constant (.bool b) j pos) (tC (.bl b)):=.mk <| fun _ _ _ H _ I h=>Constant_bool ⟨.bl b,H,I,rfl,h⟩
theorem gR {j pos}:PE X (.Constant .none j pos) (tC .non):=.mk <| fun _ _ _ H _ I h=>Constant_none ⟨.non,H,I,rfl,h⟩
theorem gQ {x j pos}:PE X (.Constant (.str x) j pos) (tC (.str x)):=.mk <| fun _ _ _ H _ I h=>Calls.Constant_str ⟨.str x,H,I.tok _,⟨_,rfl⟩,h⟩
def Gl (X:Cx) (x:Str):Prop:=X.env.kindOf x=some .globalImplicit
theorem zb {E:Value->Shared->Prop} {pins:List (Addr×Obj)} {s:Shared} {σ:St} {H:Hp} {x:Str} {u:Value} {pos:Pos} {Q:Value->Shared->Prop} (I:Inv X pins σ H s) (hg:Gl X x) (hm:X.mg x=some u) (h:Q u s)
  (hd:(x==("__debug__" : Str))=false:=by decide):wpAny (model X.prog X.w) X.A (eval (.Name x pos) X.env) Q E s:=
 Calls.Name_function_global I.ok.kind hg (Calls.loadGlobal_global (by rw[I.ok.glob]; exact I.mod.glob.keeps I.bk) hm h) hd
theorem jz {E:Value->Shared->Prop} {pins:List (Addr×Obj)} {s:Shared} {σ:St} {H:Hp} {x:Str} {u:Value} {pos:Pos} {Q:Value->Shared->Prop} (I:Inv X pins σ H s) (hg:Gl X x) (hm:X.mg x=none) (hv:bootBuiltins x=some u) (h:Q u s)
  (hn:x ≠ "__name__" := by decide) (hd:(x==("__debug__" : Str))=false:=by decide):wpAny (model X.prog X.w) X.A (eval (.Name x pos) X.env) Q E s:=by
 obtain⟨mb,h1,h2⟩:=I.mod.blt;exact Calls.Name_function_global I.ok.kind hg (Calls.loadGlobal_builtin (by rw[I.ok.glob]; exact I.mod.glob.keeps I.bk) hm (by rw[I.ok.blt]; exact h1.keeps I.bk) ((h2 x hn).trans hv) h) hd
theorem yH {x:Str} {v:V} {u:Value} {pos:Pos} (hg:Gl X x) (hm:X.mg x=some u) (r:RelV v u) (hd:(x==("__debug__" : Str))=false:=by decide):PE X (.Name x pos) (tC v):=
 .mk <| fun _ _ _ H _ I h=>zb I hg hm ⟨v,H,I,r,h⟩ hd
theorem O3 {x:Str} {v:V} {u:Value} {pos:Pos} (hg:Gl X x) (hm:X.mg x=none) (hv:bootBuiltins x=some u) (r:RelV v u) (hn:x ≠ "__name__" := by decide) (hd:(x==("__debug__" : Str))=false:=by decide):PE X (.Name x pos) (tC v):=
 .mk <| fun _ _ _ H _ I h=>jz I hg hm hv ⟨v,H,I,r,h⟩ hn hd
variable {a b:Expr} {ta tb:TE} {pos:Pos}
def tB (t:TE):TT:=fun σ H Q=>t σ H fun x H1=>∃c,x=.bl c/\Q c H1
theorem iH {e:Expr} {t:TE} (h:PE X e t) (he:∀whole,isTrue e X.env whole=(do let v <- whole; standAt e.pos; holding [v] (truthy v)):=by intro _; rfl):PT X e (tB t):=by
 refine .mk ?_;intro pins s σ H Q I hw;refine isTrue_plain (cz (h pins s σ H _ I hw) fun v s1 ⟨x,H1,I1,r1,q1⟩=>?_) (he _);obtain⟨d,rfl,q⟩:=q1;cases r1;exact Dw ⟨H1,I1,q⟩
variable {tA Yh:TT} {rest:List Expr}
def V5 (t u:TT):TT:=fun σ H Q=>t σ H fun c H1=>if c=true then u σ H1 Q else Q false H1
def tOr (t u:TT):TT:=fun σ H Q=>t σ H fun c H1=>if c=true then Q true H1 else u σ H1 Q
def V0 (t:TT):TT:=fun σ H Q=>t σ H fun c H1=>Q (!c) H1
theorem sW (ha:PT X a tA):PW X (.BoolOp .And [a] pos) tA:=by
 refine .mk ?_;intro wh pins s σ H Q I h;refine isTrue_and (cz (ha pins s σ H Q I h) fun c s1 e=>?_);cases c with
 | true=>exact isTrue_and_nil e
 | false=>exact e
theorem uE (ha:PT X a tA):PW X (.BoolOp .Or [a] pos) tA:=by
 refine .mk ?_;intro wh pins s σ H Q I h;refine isTrue_or (cz (ha pins s σ H Q I h) fun c s1 e=>?_);cases c with
 | false=>exact isTrue_or_nil e
 | true=>exact e
theorem yx (ha:PT X a tA) (hb:PW X (.BoolOp .And (b::rest) pos) Yh):PW X (.BoolOp .And (a::b::rest) pos) (V5 tA Yh):=by
 refine .mk ?_;intro wh pins s σ H Q I h;refine isTrue_and (cz (ha pins s σ H _ I h) fun c s1 qx=>?_);obtain⟨H1,I1,q1⟩:=qx;cases c with
 | true=>exact hb wh pins s1 σ H1 Q I1 q1
 | false=>exact⟨H1,I1,q1⟩
theorem Bk (ha:PT X a tA) (hb:PW X (.BoolOp .Or (b::rest) pos) Yh):PW X (.BoolOp .Or (a::b::rest) pos) (tOr tA Yh):=by
 refine .mk ?_;intro wh pins s σ H Q I h;refine isTrue_or (cz (ha pins s σ H _ I h) fun c s1 qx=>?_);obtain⟨H1,I1,q1⟩:=qx;cases c with
 | true=>exact⟨H1,I1,q1⟩
 | false=>exact hb wh pins s1 σ H1 Q I1 q1
theorem uF (ha:PT X a tA):PT X (.UnaryOp .Not a pos) (V0 tA):=by
 refine .mk ?_;intro pins s σ H Q I h;exact isTrue_not (ha pins s σ H (fun c H1=>Q (!c) H1) I h)
def QF (ta tb:TE):TE:=fun σ H Q=>ta σ H fun x H1=>∃c,x=.bl c/\if c=true then tb σ H1 Q else Q (.bl false) H1
def ZJ (ta tb:TE):TE:=fun σ H Q=>ta σ H fun x H1=>∃c,x=.bl c/\if c=true then Q (.bl true) H1 else tb σ H1 Q
def VV (ta:TE):TE:=fun σ H Q=>ta σ H fun x H1=>∃c,x=.bl c/\Q (.bl (!c)) H1
theorem Sg {op} {t:TE} (h:PE X a t):PE X (.BoolOp op [a] pos) t:=.mk <| fun pins s σ H Q I hw=>BoolOp_one (h pins s σ H Q I hw)
theorem KN (ha:PE X a ta) (hb:PE X (.BoolOp .And (b::rest) pos) tb):PE X (.BoolOp .And (a::b::rest) pos) (QF ta tb):=by
 refine .mk ?_;intro pins s σ H Q I h;refine BoolOp_and (cz (ha pins s σ H _ I h) fun v s1 qx=>?_);obtain⟨x,H1,I1,r1,q1⟩:=qx;obtain⟨c,rfl,q1⟩:=q1;cases r1;refine Dw ?_;cases c with
 | true=>exact hb pins s1 σ H1 Q I1 q1
 | false=>exact⟨.bl false,H1,I1,rfl,q1⟩
def U4 (t:TT) (ta tb:TE):TE:=fun σ H Q=>t σ H fun c H1=>if c=true then ta σ H1 Q else tb σ H1 Q
theorem cL {c:Expr} (hc:PT X c tA) (ha:PE X a ta) (hb:PE X b tb):PE X (.IfExp c a b pos) (U4 tA ta tb):=by
 refine .mk ?_;intro pins s σ H Q I h;refine wpAny_IfExp (cz (hc pins s σ H _ I h) fun d s1 qx=>?_);obtain⟨H1,I1,q1⟩:=qx;cases d with
 | true=>exact ha pins s1 σ H1 Q I1 q1
 | false=>exact hb pins s1 σ H1 Q I1 q1
end
def cV (K:PySem.W.Frag) (H:Hp) (a:Addr) (xs:List V):Prop:=
 Rd H a (.lst xs) \/
  ∃(o:Obj) (its:Array Value) (n:Nat),K.lookup a=some o/\o.cls=.type "list" /\ o.dict=none/\o.data=.seq its n/\its.size<=sizeLine/\Vals xs its.toList
def fW (K:PySem.W.Frag) (H:Hp) (a:Addr) (xs:List V):Prop:=
 Rd H a (.tup xs) \/
  ∃(o:Obj) (its:Array Value) (n:Nat),K.lookup a=some o/\o.cls=.type "tuple" /\ o.data=.seq its n/\its.size<=sizeLine/\Vals xs its.toList
def aa9:Value->Option V
 | .none=>some .non
 | .bool b=>some (.bl b)
 | .int i _=>some (.int i)
 | .str x _=>some (.str x)
 | .bytes b _=>some (.Jm b)
 | .float b _=>some (.flt b)
 | .ref a=>some (.ref a)
 | .type n=>some (.ty n)
 | _=>none
theorem RelV.abs {x:V} {u:Value} (r:RelV x u):aa9 u=some x:=by
 cases x with
 | non=>cases r; rfl
 | bl _=>cases r; rfl
 | int _=>obtain⟨t,rfl⟩:=r; rfl
 | str _=>obtain⟨t,rfl⟩:=r; rfl
 | Jm _=>obtain⟨t,rfl⟩:=r; rfl
 | flt _=>obtain⟨t,rfl⟩:=r; rfl
 | ref _=>cases r; rfl
 | ty _=>cases r; rfl
theorem RelV.inj {x y:V} {u:Value} (r:RelV x u) (q:RelV y u):x=y:=Option.some.inj (r.abs.symm.trans q.abs)
theorem Vals.inj:∀{xs ys:List V} {us:List Value},Vals xs us->Vals ys us->xs=ys
 | _,_,_,.nil,.nil=>rfl
 | _,_,_,.cons r t,.cons r' t'=>by rw[r.inj r',Vals.inj t t']
section
variable {X:Cx} {pins:List (Addr×Obj)} {σ:St} {H:Hp} {s:Shared} {a:Addr} {xs ys:List V}
theorem cV.of {K:PySem.W.Frag} (h:H a=some (.lst xs)):cV K H a xs:=.inl (.inl h)
theorem fW.of {K:PySem.W.Frag} (h:H a=some (.tup xs)):fW K H a xs:=.inl (.inl h)
theorem Inv.list (I:Inv X pins σ H s) (h:cV X.K H a xs):∃its:List Value,Vals xs its/\PlainL s.heap a its.toArray/\xs.length<=sizeLine:=by
 rcases h with h | ⟨o,its,n,hk,hc,hd,hs,hz,r⟩
 ·obtain⟨z,its,n,r,e⟩:=h.ok I.hok;exact⟨its,r,⟨_,n,e,rfl,rfl,rfl⟩,z⟩
 ·refine⟨its.toList,r,⟨o,n,I.rY a o hk,hc,hd,by simpa using hs⟩,?_⟩
  have e:=r.length;simp only[Array.length_toList] at e;omega
theorem Inv.tuple (I:Inv X pins σ H s) (h:fW X.K H a xs):∃its:List Value,Vals xs its/\IsTup s.heap a its.toArray/\xs.length<=sizeLine:=by
 rcases h with h | ⟨o,its,n,hk,hc,hs,hz,r⟩
 ·obtain⟨z,its,r,p⟩:=h.ok I.hok;exact⟨its,r,p,z⟩
 ·refine⟨its.toList,r,⟨o,I.rY a o hk,hc,n,by simpa using hs⟩,?_⟩
  have e:=r.length;simp only[Array.length_toList] at e;omega
theorem Inv.uZ (I:Inv X pins σ H s) (h:cV X.K H a xs) (h':cV X.K H a ys):xs=ys:=by
 obtain⟨its,r,⟨o,n,e,_,_,d⟩,_⟩:=I.list h;obtain⟨its',r',⟨o',n',e',_,_,d'⟩,_⟩:=I.list h';rw[e] at e'; cases e';rw[d] at d';injection d' with d1 _
 have:its=its':=by simpa using nR Array.toList d1
 subst this;exact r.inj r'
theorem Inv.Hg (I:Inv X pins σ H s) (h:fW X.K H a xs) (h':fW X.K H a ys):xs=ys:=by
 obtain⟨its,r,⟨o,e,_,n,d⟩,_⟩:=I.tuple h;obtain⟨its',r',⟨o',e',_,n',d'⟩,_⟩:=I.tuple h';rw[e] at e'; cases e';rw[d] at d';injection d' with d1 _
 have:its=its':=by simpa using nR Array.toList d1
 subst this;exact r.inj r'
end
abbrev Cx.wish (X:Cx) (E:Value->Shared->Prop):Cx:={ X with xe:=E }
abbrev Cx.U7 (X:Cx):Cx:=X.wish fun _ _=>False
theorem Cx.Ok.wish {X:Cx} (ok:X.Ok) (E:Value->Shared->Prop):(X.wish E).Ok:=
 ⟨ok.mod,ok.kind,ok.glob,ok.blt,ok.above,ok.inj,ok.has,ok.cab,ok.hd,ok.frames,ok.Yk,ok.YM,ok.bs,ok.My,ok.Ii,ok.Jf,ok.sr,ok.TQ⟩
theorem Cx.Ok.kE {X:Cx} {E:Value->Shared->Prop} (ok:(X.wish E).Ok):X.Ok:=
 ⟨ok.mod,ok.kind,ok.glob,ok.blt,ok.above,ok.inj,ok.has,ok.cab,ok.hd,ok.frames,ok.Yk,ok.YM,ok.bs,ok.My,ok.Ii,ok.Jf,ok.sr,ok.TQ⟩
section
variable {X:Cx} {pins:List (Addr×Obj)} {σ:St} {H:Hp} {s:Shared} {E:Value->Shared->Prop}
theorem Inv.wish (I:Inv X pins σ H s) (E:Value->Shared->Prop):Inv (X.wish E) pins σ H s:=⟨I.ok.wish E,I.os,I.bare,I.base,I.loc,I.cell,I.free,I.jN,I.pin,I.hok,I.len⟩
theorem Inv.kE (I:Inv (X.wish E) pins σ H s):Inv X pins σ H s:=⟨I.ok.kE,I.os,I.bare,I.base,I.loc,I.cell,I.free,I.jN,I.pin,I.hok,I.len⟩
theorem SP.kE {D:Ends} {f:Flow} {s':Shared} (h:SP (X.wish E) pins D f s'):SP X pins D f s':=by
 cases f with
 | next=>obtain⟨σ',H',I,q⟩:=h; exact⟨σ',H',I.kE,q⟩
 | brk=>obtain⟨σ',H',I,q⟩:=h; exact⟨σ',H',I.kE,q⟩
 | cont=>obtain⟨σ',H',I,q⟩:=h; exact⟨σ',H',I.kE,q⟩
 | ret u=>obtain⟨v,σ',H',I,r,q⟩:=h; exact⟨v,σ',H',I.kE,r,q⟩
theorem Cq.U7 {st:List Stmt} {t:TS} (h:Cq X.U7 st t):Cq X st t:=.mk <| fun pins s σ H D I hw=>
 mU (h pins s σ H D (I.wish _) hw) (fun _ _ q=>q.kE) fun _ _ z=>False.elim z
end
section
variable {X:Cx} {st:Stmt} {rest:List Stmt} {t u:TS} {e:Expr} {te:TE} {pos:Pos}
def Ft:TS:=fun D σ H=>D.nx σ H
def Hh (t u:TS):TS:=fun D σ H=>t { D with nx:=u D } σ H
theorem bM:Cq X [] Ft:=.mk <| fun _ _ σ H _ I h=>wpAny_execs_nil ⟨σ,H,I,h⟩
theorem aq (h1:PS X st t) (h2:Cq X rest u):Cq X (st::rest) (Hh t u):=by
 refine .mk ?_;intro pins s σ H D I h;refine wpAny_execs_cons (cz (h1 pins s σ H { D with nx:=u D } I h) fun f s1 q=>?_)
 cases f with
 | next=>
  obtain⟨σ',H',I',q⟩:=q;exact h2 pins s1 σ' H' D I' q
 | ret v=>exact q
 | brk=>exact q
 | cont=>exact q
theorem aH (h1:PS X st t):Cq X [st] t:=by
 refine .mk ?_;intro pins s σ H D I h;refine wpAny_execs_cons (cz (h1 pins s σ H D I h) fun f s1 q=>?_);cases f with
 | next=>exact wpAny_execs_nil q
 | ret v=>exact q
 | brk=>exact q
 | cont=>exact q
theorem Inv.quiet {pins:List (Addr×Obj)} {σ:St} {H:Hp} {s:Shared} (I:Inv X pins σ H s):interactive X.env=false:=by simp[interactive,I.ok.kind]
def QC (te:TE):TS:=fun D σ H=>te σ H fun _ H1=>D.nx σ H1
theorem cZ (he:PE X e te) (hs:swapsWith e none pos.line X.env=pure false:=by rfl):PS X (.Expr e pos) (QC te):=by
 refine .mk ?_;intro pins s σ H D I h;exact wpAny_Expr_any (cz (he pins s σ H _ I h) fun v s1 ⟨x,H1,I1,r1,q1⟩=>⟨σ,H1,I1,q1⟩) I.quiet hs
def VP (te:TE):TS:=fun D σ H=>te σ H D.rt
theorem aY (he:PE X e te):PS X (.Return (some e) pos) (VP te):=by
 refine .mk ?_;intro pins s σ H D I h;exact wpAny_Return_some (cz (he pins s σ H _ I h) fun v s1 ⟨x,H1,I1,r1,q1⟩=>⟨x,σ,H1,I1,r1,q1⟩)
def VN:TS:=fun D _ H=>D.rt .non H
def Hi (c:TT) (t u:TS):TS:=fun D σ H=>c σ H fun b H1=>if b=true then t D σ H1 else u D σ H1
theorem di {c:Expr} {a b:List Stmt} {tc:TT} (hc:PT X c tc) (ha:Cq X a t) (hb:Cq X b u):PS X (.If c a b pos) (Hi tc t u):=by
 refine .mk ?_;intro pins s σ H D I h;refine wpAny_If (cz (hc pins s σ H _ I h) fun d s1 qx=>?_);obtain⟨H1,I1,q1⟩:=qx;cases d with
 | true=>exact ha pins s1 σ H1 D I1 q1
 | false=>exact hb pins s1 σ H1 D I1 q1
end
abbrev TG:=V->St->Hp->(St->Hp->Prop)->Prop
abbrev MF:=List V->St->Hp->(St->Hp->Prop)->Prop
structure PG (X:Cx) (target:Expr) (t:TG):Prop where
 mk ::
 go :
 ∀(pins:List (Addr×Obj)) (s:Shared) (σ:St) (H:Hp) (v:V) (u:Value) (Q:St->Hp->Prop),Inv X pins σ H s->RelV v u->t v σ H Q ->
  wpAny (model X.prog X.w) X.A (assign target X.env u) (fun _ s'=>∃σ' H',Inv X pins σ' H' s'/\Q σ' H') X.xe s
instance {X:Cx} {target:Expr} {t:TG}:CoeFun (PG X target t) (fun _=>
 ∀(pins:List (Addr×Obj)) (s:Shared) (σ:St) (H:Hp) (v:V) (u:Value) (Q:St->Hp->Prop),Inv X pins σ H s->RelV v u->t v σ H Q ->
  wpAny (model X.prog X.w) X.A (assign target X.env u) (fun _ s'=>∃σ' H',Inv X pins σ' H' s'/\Q σ' H') X.xe s):=⟨PG.go⟩
structure Uv (X:Cx) (ts:List Expr) (t:MF):Prop where
 mk ::
 go :
 ∀(pins:List (Addr×Obj)) (s:Shared) (σ:St) (H:Hp) (vs:List V) (us:List Value) (Q:St->Hp->Prop),Inv X pins σ H s->Vals vs us->t vs σ H Q ->
  wpAny (model X.prog X.w) X.A (assignInOrder ((assignEach ts X.env).map (·.2)) us) (fun _ s'=>∃σ' H',Inv X pins σ' H' s'/\Q σ' H') X.xe s
instance {X:Cx} {ts:List Expr} {t:MF}:CoeFun (Uv X ts t) (fun _=>
 ∀(pins:List (Addr×Obj)) (s:Shared) (σ:St) (H:Hp) (vs:List V) (us:List Value) (Q:St->Hp->Prop),Inv X pins σ H s->Vals vs us->t vs σ H Q ->
  wpAny (model X.prog X.w) X.A (assignInOrder ((assignEach ts X.env).map (·.2)) us) (fun _ s'=>∃σ' H',Inv X pins σ' H' s'/\Q σ' H') X.xe s):=⟨Uv.go⟩
abbrev Jp:=V->V->V->Hp->(Hp->Prop)->Prop
structure Jq (X:Cx) (t:Jp):Prop where
 mk ::
 go :
 ∀(pins:List (Addr×Obj)) (s:Shared) (σ:St) (H:Hp) (o i v:V) (ov iv u:Value) (Q:Hp->Prop),Inv X pins σ H s->RelV o ov->RelV i iv->RelV v u->t o i v H Q ->
  wpAny (model X.prog X.w) X.A (setItem ov iv u) (fun _ s'=>∃H',Inv X pins σ H' s'/\Q H') X.xe s
instance {X:Cx} {t:Jp}:CoeFun (Jq X t) (fun _=>
 ∀(pins:List (Addr×Obj)) (s:Shared) (σ:St) (H:Hp) (o i v:V) (ov iv u:Value) (Q:Hp->Prop),Inv X pins σ H s->RelV o ov->RelV i iv->RelV v u->t o i v H Q ->
  wpAny (model X.prog X.w) X.A (setItem ov iv u) (fun _ s'=>∃H',Inv X pins σ H' s'/\Q H') X.xe s):=⟨Jq.go⟩
abbrev Vl:=V->V->Hp->VK->Prop
def Zd (X:Cx) (op:Operator) (t:Vl):Prop:=
 ∀(pins:List (Addr×Obj)) (s:Shared) (σ:St) (H:Hp) (x y:V) (v u:Value) (Q:VK),Inv X pins σ H s->RelV x v->RelV y u->t x y H Q ->
  wpAny (model X.prog X.w) X.A (inplaceOp op v u) (EP X pins σ Q) X.xe s
section
variable {X:Cx} {pos:Pos}
def fM (i:Nat):TG:=fun v σ H Q=>Q (σ.set i (some v)) H
theorem aF {i:Nat} {x:Str} (hN:X.N.Nodup) (hi:X.N[i]?=some x) (hx:Loc X.env.scope x) (hf:X.fn x=true\/X.env.scope.names.lookup x=some .local:=by first | exact .inl rfl | exact .inr rfl | assumption):PG X (.Name x pos) (fM i):=by
 refine .mk ?_;intro pins s σ H v u Q I r h;exact wpAny_assign_Name (gC I hN hi hx r (fun s' I'=>⟨_,H,I',h⟩) hf)
def Jb:MF:=fun vs σ H Q=>match vs with
 | []=>Q σ H
 | _=>False
theorem Jb.ex {vs:List V} {σ:St} {H:Hp} {Q:St->Hp->Prop} (h:Jb vs σ H Q):vs=[]/\Q σ H:=by
 cases vs with
 | nil=>exact⟨rfl,h⟩
 | cons a b=>exact h.elim
def rF (t:TG) (u:MF):MF:=fun vs σ H Q=>match vs with
 | v::r=>t v σ H fun σ' H'=>u r σ' H' Q
 | []=>False
theorem rF.ex {t:TG} {u:MF} {vs:List V} {σ:St} {H:Hp} {Q:St->Hp->Prop} (h:rF t u vs σ H Q):∃v r,vs=v::r/\t v σ H fun σ' H'=>u r σ' H' Q:=by
 cases vs with
 | nil=>exact h.elim
 | cons a b=>exact⟨a,b,rfl,h⟩
theorem bQ:Uv X [] Jb:=by
 refine .mk ?_;intro pins s σ H vs us Q I r h;obtain⟨e,h⟩:=Jb.ex h;subst e;cases r;exact assignInOrder_nil ⟨σ,H,I,h⟩
theorem aG {e:Expr} {es:List Expr} {t:TG} {u:MF} (h1:PG X e t) (h2:Uv X es u)
  (hs:(assignEach (e::es) X.env).map (·.2)=assign e X.env::(assignEach es X.env).map (·.2):=by rfl):Uv X (e::es) (rF t u):=by
 refine .mk ?_;intro pins s σ H vs us Q I r h;obtain⟨v,vr,e1,h⟩:=rF.ex h;subst e1;cases r with
 | cons r rr=>
  rw[hs];refine assignInOrder_cons (cz (h1 pins s σ H _ _ _ I r h) fun _ s1 qx=>?_);obtain⟨σ1,H1,I1,q1⟩:=qx;exact h2 pins s1 σ1 H1 _ _ Q I1 rr q1
def TF (K:PySem.W.Frag) (n:Nat) (t:MF):TG:=fun v σ H Q=>∃a xs,v=.ref a/\fW K H a xs/\xs.length=n/\t xs σ H Q
theorem R9 {es:List Expr} {k:Nat} {t:MF} {n:Nat} (hc:X.calm=true) (h:Uv X es t)
  (hn:(assignEach es X.env).length=n:=by rfl) (hst:(assignEach es X.env).findIdx? (·.1)=none:=by rfl):PG X (.Tuple es k pos) (TF X.K n t):=by
 refine .mk ?_;intro pins s σ H v u Q I r hw;obtain⟨a,xs,e1,hq,hl,hw⟩:=hw;subst e1;cases r;obtain⟨its,rv,ht,hz⟩:=I.tuple hq;refine assign_Tuple_tuple (I.ok.hd hc) ht (by simp[hn,<- hl,rv.length]) hst fun h' hx=>?_
 have I1:Inv X pins σ H { s with heap:=h' }:=I.kept (t':=s.toks) fun b o e=>hx b o (dM (b8 e)) e
 exact h pins _ σ H xs _ Q I1 (by simpa using rv) hw
def Xm (to ti:TE) (t:Jp):TG:=fun v σ H Q=>to σ H fun o H1=>ti σ H1 fun i H2=>t o i v H2 fun H3=>Q σ H3
theorem uJ {o i:Expr} {to ti:TE} {t:Jp} (ho:PE X o to) (hi:PE X i ti) (hs:Jq X t)
  (ha:∀v,assign (.Subscript o i pos) X.env v=(do
   let ov <- holding [v] (eval o X.env)
   let iv <- holding [v,ov] (eval i X.env)
   standAt pos
   holding [v,ov,iv] (setItem ov iv v)
   release [v,ov,iv] []):=by intro _; rfl):PG X (.Subscript o i pos) (Xm to ti t):=by
 refine .mk ?_;intro pins s σ H v u Q I r h;rw[ha];refine aP (mV (cz (ho pins s σ H _ I h) fun ov s1 qx=>?_));obtain⟨x,H1,I1,r1,q1⟩:=qx;refine aP (mV (cz (hi pins s1 σ H1 _ I1 q1) fun iv s2 qx=>?_));obtain⟨y,H2,I2,r2,q2⟩:=qx;refine aP (yq (aP (mV (cz (hs pins s2 σ H2 x y v ov iv u _ I2 r1 r2 r q2) fun _ s3 qx=>?_))));obtain⟨H3,I3,q3⟩:=qx;exact wpAny_release ⟨σ,H3,I3,q3⟩
def tW (te:TE) (g:TG):TS:=fun D σ H=>te σ H fun x H1=>g x σ H1 D.nx
theorem eE {tg e:Expr} {te:TE} {g:TG} (he:PE X e te) (hg:PG X tg g) (hs:swapsWithSole [tg] e pos.line X.env=pure false:=by rfl) (hw:swappedStores [tg] e X.env=pure none:=by rfl)
  (h1:(assignEach [tg] X.env).map (·.2)=[assign tg X.env]:=by rfl):PS X (.Assign [tg] e pos) (tW te g):=by
 refine .mk ?_;intro pins s σ H D I h;refine wpAny_Assign_stores (cz (he pins s σ H _ I h) fun v s1 ⟨x,H1,I1,r1,q1⟩=>?_) hs hw;rw[h1];exact cz (hg pins s1 σ H1 x v _ I1 r1 q1) fun _ s2 q=>q
theorem aQ {i:Nat} {x:Str} {e:Expr} {te:TE} {pos':Pos} (hN:X.N.Nodup) (hi:X.N[i]?=some x) (hx:Loc X.env.scope x) (he:PE X e te) (hs:swapsWith e (some (.Name x pos')) pos.line X.env=pure false:=by rfl) (hf:X.fn x=true\/X.env.scope.names.lookup x=some .local:=by first | exact .inl rfl | exact .inr rfl | assumption) :
  PS X (.Assign [.Name x pos'] e pos) (tW te (fM i)):=by
 refine .mk ?_;intro pins s σ H D I h;refine wpAny_Assign_Name (cz (he pins s σ H _ I h) fun v s1 ⟨y,H1,I1,r1,q1⟩=>?_) hs;exact gC I1 hN hi hx r1 (fun s2 I2=>⟨_,H1,I2,q1⟩) hf
def VR (i j:Nat) (ta:TA):TS:=fun D σ H=>ta σ H fun vs H1=>∃v w,vs=[v,w]/\D.nx ((σ.set i (some v)).set j (some w)) H1
theorem qL {i j:Nat} {x y:Str} {a b:Expr} {ta:TA} {px py pt:Pos} {kt k2 R3} (hc:X.calm=true) (hN:X.N.Nodup) (hi:X.N[i]?=some x) (hj:X.N[j]?=some y) (hij:i≠j)
  (hx:X.env.scope.names.lookup x=some .local) (hy:X.env.scope.names.lookup y=some .local) (ha:PA X [a,b] ta)
  (hw:swappedStores [.Tuple [.Name x px,.Name y py] kt pt] (.Tuple [a,b] k2 R3) X.env=pure (some [x,y]))
  (hs:swapsWithSole [.Tuple [.Name x px,.Name y py] kt pt] (.Tuple [a,b] k2 R3) pos.line X.env=pure false:=by rfl) :
  PS X (.Assign [.Tuple [.Name x px,.Name y py] kt pt] (.Tuple [a,b] k2 R3) pos) (VR i j ta):=by
 refine .mk ?_;intro pins s σ H D I h;rw[exec_Assign_arm];refine aP (yq ?_);rw[hs];refine aP (bW ?_);rw[aV (by decide)]
 refine aP (Tuple_ (cz (ha _ pins s σ H _ I h) fun us s1 qx=>?_));obtain⟨vs,H1,I1,r1,q1⟩:=qx;obtain⟨v,w,e1,q1⟩:=q1;subst e1
 obtain⟨u1,u2,rfl,rv,Ao⟩:∃u1 u2,us=[u1,u2]/\RelV v u1/\RelV w u2:=by
  cases r1 with
  | cons p q=>
   cases q with
   | cons p' q'=>
    cases q';exact⟨_,_,rfl,p,p'⟩
 refine vQ ?_ (by show 2<=sizeLine; decide)
 have I2:Inv X pins σ H1 { s1 with heap:=s1.heap.push { cls:=.type "tuple",data:=.seq [u1,u2].toArray } }:=I1.kept (t':=s1.toks) fun b o e=>e_ _ e
 rw[hw];refine aP (bW ?_);show wpAny (model X.prog X.w) X.A (do rule "assign.swapped-stores"; let items <- unpackItems (.ref s1.heap.objs.size) 2 none; assignInOrder [fun v=>bindName X.env y v,fun v=>bindName X.env x v] items.reverse; pure Flow.next) _ _ _
 refine aP (Av (aP (unpackItems_tuple (items:=#[u1,u2]) (I.ok.hd hc) (IsTup.new s1.heap _) fun h' hx'=>?_)));have I3:=I2.kept (h':=h') (t':=s1.toks) fun b o e=>hx' b o (dM (b8 e)) e;show wpAny _ _ (assignInOrder [fun v=>bindName X.env y v,fun v=>bindName X.env x v] [u2,u1] >>= fun _=>pure Flow.next) _ _ _;refine aP (assignInOrder_cons (Bg (gC I3 hN hj (.inl hy) Ao (fun s2 I4=>?_) (.inr hy))));refine assignInOrder_cons (Bg (gC I4 hN hi (.inl hx) rv (fun s3 I5=>assignInOrder_nil (bW ?_)) (.inr hx)));rw[List.set_comm _ _ (Ne.symm hij)] at I5;exact⟨_,H1,I5,q1⟩
def V4 (i:Nat) (te:TE) (ti:Vl):TS:=fun D σ H=>∃x,σ[i]?=some (some x)/\te σ H fun y H1=>ti x y H1 fun z H2=>D.nx (σ.set i (some z)) H2
theorem yC {i:Nat} {x:Str} {e:Expr} {te:TE} {op:Operator} {ti:Vl} {pos':Pos} (hN:X.N.Nodup) (hi:X.N[i]?=some x) (hx:Loc X.env.scope x) (he:PE X e te) (ho:Zd X op ti) (hf:X.fn x=true\/X.env.scope.names.lookup x=some .local:=by first | exact .inl rfl | exact .inr rfl | assumption) :
  PS X (.AugAssign (.Name x pos') op e pos) (V4 i te ti):=by
 refine .mk ?_;intro pins s σ H D I h;obtain⟨v,e1,h⟩:=h;obtain⟨m,hn,hl⟩:=I.loc;have vis:Y9 X.env.scope x:=by rcases hx with k | k; exact .inl k; exact .inr (.inl k)
 obtain⟨u,r,l⟩:=hl i x v hi e1 vis;refine wpAny_AugAssign_Name ?_
 have go:wpAny (model X.prog X.w) X.A (eval e X.env) (fun w s₂=>wpAny (model X.prog X.w) X.A (inplaceOp op u w) (fun r s₃=>wpAny (model X.prog X.w) X.A (storeName X.env x r) (fun _=>SP X pins D .next) X.xe s₃) X.xe s₂) X.xe s:=by
  refine cz (he pins s σ H _ I h) fun w s1 qx=>?_;obtain⟨y,H1,I1,r1,q1⟩:=qx;refine cz (ho pins s1 σ H1 v y u w _ I1 r r1 q1) fun z s2 qx=>?_;obtain⟨zv,H2,I2,r2,q2⟩:=qx;exact gC I2 hN hi hx r2 (fun s3 I3=>⟨_,H2,I3,q2⟩) hf
 rcases l with⟨hk,hm⟩ | ⟨hk,c,hc,hcell⟩
 ·exact wpAny_loadName_local I.ok.kind hk hn hm go
 ·rcases hk with hk | hk
  ·exact wpAny_loadName_cell I.ok.kind hk hc hcell go
  ·rcases hx with k | k
   ·have:X.env.scope.names.lookup x=some .free:=hk;rw[k] at this; cases this
   ·have:X.env.scope.names.lookup x=some .free:=hk;rw[k] at this; cases this
def QD (to ti te:TE) (Nu:V->V->Hp->VK->Prop) (Yg:Vl) (Nr:Jp):TS:=fun D σ H=>to σ H fun o H1=>ti σ H1 fun i H2=>Nu o i H2 fun x H3=>te σ H3 fun y H4=>Yg x y H4 fun z H5=>Nr o i z H5 fun H6=>D.nx σ H6
def XX (X:Cx) (t:V->V->Hp->VK->Prop):Prop:=
 ∀(pins:List (Addr×Obj)) (s:Shared) (σ:St) (H:Hp) (o i:V) (ov iv:Value) (Q:VK),Inv X pins σ H s->RelV o ov->RelV i iv->t o i H Q ->
  wpAny (model X.prog X.w) X.A (getItem ov iv) (EP X pins σ Q) X.xe s
theorem Ot {o i e:Expr} {to ti te:TE} {Nu:V->V->Hp->VK->Prop} {Yg:Vl} {Nr:Jp} {op:Operator} {tpos:Pos} (ho:PE X o to) (hi:PE X i ti) (hg:XX X Nu) (he:PE X e te) (hp:Zd X op Yg) (hs:Jq X Nr)
  (ha:∀ov iv new,augStore i ov iv new=(do holding [new,ov,iv] (setItem ov iv new); release [new,ov,iv] []; pure .next):=by intros; rfl):PS X (.AugAssign (.Subscript o i tpos) op e pos) (QD to ti te Nu Yg Nr):=by
 refine .mk ?_;intro pins s σ H D I h;refine wpAny_AugAssign_SubscriptAny (cz (ho pins s σ H _ I h) fun ov s1 ⟨x1,H1,I1,r1,q1⟩=>?_) ha;refine cz (hi pins s1 σ H1 _ I1 q1) fun iv s2 qx=>?_;obtain⟨x2,H2,I2,r2,q2⟩:=qx;refine cz (hg pins s2 σ H2 x1 x2 ov iv _ I2 r1 r2 q2) fun old s3 qx=>?_;obtain⟨x3,H3,I3,r3,q3⟩:=qx;refine cz (he pins s3 σ H3 _ I3 q3) fun v s4 qx=>?_;obtain⟨x4,H4,I4,r4,q4⟩:=qx;refine cz (hp pins s4 σ H4 x3 x4 old v _ I4 r3 r4 q4) fun new s5 qx=>?_;obtain⟨x5,H5,I5,r5,q5⟩:=qx;exact cz (hs pins s5 σ H5 x1 x2 x5 ov iv new _ I5 r1 r2 r5 q5) fun _ s6 ⟨H6,I6,q6⟩=>⟨σ,H6,I6,q6⟩
def ipI (f:Int->Int->Int):Vl:=fun x y H Q=>∃i j,x=.int i/\y=.int j/\Q (.int (f i j)) H
theorem Lp:Zd X .Add (ipI fun i j=>i+j):=by
 intro pins s σ H x y v u Q I r1 r2 h;obtain⟨i,j,e1,e2,q⟩:=h;subst e1; subst e2;obtain⟨t,rfl⟩:=r1;obtain⟨t',rfl⟩:=r2;exact iadd_int ⟨.int _,H,I.tok _,⟨_,rfl⟩,q⟩
theorem Ej:Zd X .Sub (ipI fun i j=>i-j):=by
 intro pins s σ H x y v u Q I r1 r2 h;obtain⟨i,j,e1,e2,q⟩:=h;subst e1; subst e2;obtain⟨t,rfl⟩:=r1;obtain⟨t',rfl⟩:=r2;exact isub_int ⟨.int _,H,I.tok _,⟨_,rfl⟩,q⟩
end
section
variable {X:Cx} {pos:Pos}
end
structure It where
 go:Nat->Hp->Prop
 Fi:Nat->Hp->V->Hp->Prop
 stop:Nat->Hp->Prop
def fK (X:Cx) (pins:List (Addr×Obj)) (H:Hp) (b:Addr):Prop:=
 H b=none/\b≠X.env.locals/\b∉X.fs/\(b∈X.ex\/X.s₀.heap.objs.size<=b)/\(∀x c,X.env.cells.lookup x=some c->c≠b)/\∀p∈X.pn++pins,p.1≠b
theorem Inv.vg {X:Cx} {pins:List (Addr×Obj)} {σ:St} {H H':Hp} {s:Shared} {b:Addr} (I:Inv X pins σ H s) (hb:s.heap.objs.size<=b) (hn:H' b=none):fK X pins H' b:=by
 refine⟨hn,Aw (mX I.lt hb),I.aai hb,.inr (kj I.sz hb),fun x c e z=>?_,fun p hp z=>?_⟩
 ·obtain⟨v,q⟩:=I.cell x c e;exact absurd (mX q.lt (by rw[z]; exact hb)) (rN _)
 ·exact absurd (mX (b8 (I.pin p hp).1) (by rw[z]; exact hb)) (rN _)
structure Turn (P:Program) (w:World) (K:PySem.W.Frag) (tg:Expr) (J:It) (fp:List Addr) (it:Addr) (tn:Nat->Heap->Prop):Prop where
 mem:it∈fp
 obj:∀i h,tn i h->∀b∈fp,∃o,h.get? b=some o/\∀v,o.data≠.cell v
 keep:∀i h h',tn i h->(∀b∈fp,∀o,h.get? b=some o->h'.get? b=some o)->tn i h'
 item:∀(X:Cx),X.prog=P->X.w=w->X.K=K->X.calm=true->∀(i:Nat) (pins:List (Addr×Obj)) (s:Shared) (σ:St) (H:Hp) (E:Value->Shared->Prop),Inv X pins σ H s->(∀b∈fp,fK X pins H b)->tn i s.heap->J.go i H ->
  wpAny (model P w) X.A (pyNext (.ref it)) (fun r s1=>∃u,r=some u /\
   wpAny (model P w) X.A (letOwnedTupleGo tg (.ref it) u) (fun _ s2=>∃x H',Inv X pins σ H' s2/\RelV x u/\J.Fi i H x H'/\tn (i+1) s2.heap/\∀b∈fp,H' b=none) E s1) E s
 done:∀(X:Cx),X.prog=P->X.w=w->X.K=K->X.calm=true->∀(i:Nat) (pins:List (Addr×Obj)) (s:Shared) (σ:St) (H:Hp) (E:Value->Shared->Prop),Inv X pins σ H s->(∀b∈fp,fK X pins H b)->tn i s.heap->J.stop i H ->
  wpAny (model P w) X.A (pyNext (.ref it)) (fun r s1=>r=none/\Inv X pins σ H s1) E s
 self:∀(A:Around) (i:Nat) (s:Shared) (Q:Value->Shared->Prop) (E:Value->Shared->Prop),tn i s.heap->Q (.ref it) s->wpAny (model P w) A (pyIter (.ref it)) Q E s
abbrev TI:=St->Hp->(It->Hp->Prop)->Prop
def PIE (X:Cx) (pins:List (Addr×Obj)) (σ:St) (tg:Expr) (R:It->Hp->Prop) (itv:Value) (s2:Shared):Prop:=
 ∃(it:Addr) (fp:List Addr) (tn:Nat->Heap->Prop) (J:It) (H':Hp),itv=.ref it/\Inv X pins σ H' s2/\Turn X.prog X.w X.K tg J fp it tn/\tn 0 s2.heap/\(∀b∈fp,fK X pins H' b)/\R J H'
structure PI (X:Cx) (tg iter:Expr) (wi:TI):Prop where
 mk ::
 go :
 ∀(pins:List (Addr×Obj)) (s:Shared) (σ:St) (H:Hp) (R:It->Hp->Prop),Inv X pins σ H s->wi σ H R ->
  wpAny (model X.prog X.w) X.A (eval iter X.env) (fun v s1=>wpAny (model X.prog X.w) X.A (pyIter v) (PIE X pins σ tg R) X.xe s1) X.xe s
instance {X:Cx} {tg iter:Expr} {wi:TI}:CoeFun (PI X tg iter wi) (fun _=>
 ∀(pins:List (Addr×Obj)) (s:Shared) (σ:St) (H:Hp) (R:It->Hp->Prop),Inv X pins σ H s->wi σ H R ->
  wpAny (model X.prog X.w) X.A (eval iter X.env) (fun v s1=>wpAny (model X.prog X.w) X.A (pyIter v) (PIE X pins σ tg R) X.xe s1) X.xe s):=⟨PI.go⟩
theorem xr {M:Model} {A:Around} {E:Value->Shared->Prop} {s:Shared} {tg:Expr} {it:Addr} {u:Value} {o:Obj} {n:String} {vs:Array Value} {Q:Unit->Shared->Prop} (ho:s.heap.get? it=some o) (hc:o.cls=.type n) (hd:o.data=.fields vs)
  (hn:["enumerate","zip","dict_itemiterator","dict_reverseitemiterator","odict_iterator","itertools.zip_longest","itertools.pairwise"].contains n=false) (hQ:Q () s):wpAny M A (letOwnedTupleGo tg (.ref it) u) Q E s:=by
 unfold letOwnedTupleGo;cases tg <;> first
  | exact bW hQ
  | (cases u <;> first
    | exact bW hQ
    | (refine aP (wpAny_load ho ?_)
       rw[hc,hd];show wpAny M A (if(["enumerate","zip","dict_itemiterator","dict_reverseitemiterator","odict_iterator","itertools.zip_longest","itertools.pairwise"].contains n&&vs[0]?==some (rawInt _))=true then _ else _) Q E s
       rw[aV (by intro h; rw[hn,Bool.false_and] at h; cases h)]
       exact bW hQ))
def Rh (K:PySem.W.Frag) (a:Addr):It:=
 ⟨fun i H=>∃xs x,cV K H a xs/\xs[i]?=some x,fun i H x H'=>H'=H/\∀xs,cV K H a xs->xs[i]?=some x,fun i H=>∃xs,cV K H a xs/\xs.length<=i⟩
def Rg (K:PySem.W.Frag) (a:Addr):It:=
 ⟨fun i H=>∃xs x,fW K H a xs/\xs[i]?=some x,fun i H x H'=>H'=H/\∀xs,fW K H a xs->xs[i]?=some x,fun i H=>∃xs,fW K H a xs/\xs.length<=i⟩
def Jz (lo:Int) (n:Nat):It:=⟨fun i _=>i<n,fun i H x H'=>H'=H/\x=.int (lo+i),fun i _=>n<=i⟩
theorem Hd {P:Program} {w:World} {K:PySem.W.Frag} {tg:Expr} (a it:Addr):Turn P w K tg (Rh K a) [it] it (fun i h=>h.IsListIter it a i) where
 mem:=by simp
 obj:=fun i h st b hb=>by
  have e:b=it:=by simpa using hb
  subst e;obtain⟨o,e,c,d⟩:=st;exact⟨o,e,fun v z=>by rw[d] at z; cases z⟩
 keep:=fun i h h' st k=>st.at fun o e=>k it (by simp) o e
 item:=by
  intro X hP hw hK hc i pins s σ H E I hf st hg;subst hP hw hK;obtain⟨xs,x,hq,hx⟩:=hg;obtain⟨its,rv,p,hz⟩:=I.list hq;obtain⟨u,hu,ru⟩:=rv.get hx;obtain⟨f0,f1,f2,f3,f4,f5⟩:=hf it (by simp)
  refine wpAny_pyNext_list_item st p.isList (x:=u) (by simpa using hu) fun h' st' sb=>?_
  have I1:Inv X pins σ H { s with heap:=h' }:=I.turned (t':=s.toks) (fun b o hb e=>(sb.2 b hb).trans e) f0 f1 f3 f4 f5
  obtain⟨o,e,c,d⟩:=id st';exact⟨u,rfl,xr (s:={ s with heap:=h' }) e c d (by decide) ⟨x,H,I1,ru,⟨rfl,fun ys hy=>by rw[I.uZ hy hq]; exact hx⟩,st',fun b hb=>(hf b hb).1⟩⟩
 done:=by
  intro X hP hw hK hc i pins s σ H E I hf st hg;subst hP hw hK;obtain⟨xs,hq,hx⟩:=hg;obtain⟨its,rv,p,hz⟩:=I.list hq;obtain⟨f0,f1,f2,f3,f4,f5⟩:=hf it (by simp)
  have hl:=rv.length;exact wpAny_pyNext_list_end (I.ok.hd hc) st p.isList (by simp; omega) fun h' eb=>⟨rfl,I.turned (t':=s.toks) (fun b o hb e=>eb b o hb e) f0 f1 f3 f4 f5⟩
 self:=fun _ _ _ _ _ st h=>wpAny_pyIter_listiter st h
theorem CQ {P:Program} {w:World} {K:PySem.W.Frag} {tg:Expr} (a it:Addr):Turn P w K tg (Rg K a) [it] it (fun i h=>h.IsTupleIter it a i) where
 mem:=by simp
 obj:=fun i h st b hb=>by
  have e:b=it:=by simpa using hb
  subst e;obtain⟨o,e,c,d⟩:=st;exact⟨o,e,fun v z=>by rw[d] at z; cases z⟩
 keep:=fun i h h' st k=>st.at fun o e=>k it (by simp) o e
 item:=by
  intro X hP hw hK hc i pins s σ H E I hf st hg;subst hP hw hK;obtain⟨xs,x,hq,hx⟩:=hg;obtain⟨its,rv,p,hz⟩:=I.tuple hq;obtain⟨u,hu,ru⟩:=rv.get hx;obtain⟨f0,f1,f2,f3,f4,f5⟩:=hf it (by simp)
  refine wpAny_pyNext_tuple_item st (show s.heap.IsTuple a its.toArray from p) (x:=u) (by simpa using hu) fun h' st' sb=>?_
  have I1:Inv X pins σ H { s with heap:=h' }:=I.turned (t':=s.toks) (fun b o hb e=>(sb.2 b hb).trans e) f0 f1 f3 f4 f5
  obtain⟨o,e,c,d⟩:=id st';exact⟨u,rfl,xr (s:={ s with heap:=h' }) e c d (by decide) ⟨x,H,I1,ru,⟨rfl,fun ys hy=>by rw[I.Hg hy hq]; exact hx⟩,st',fun b hb=>(hf b hb).1⟩⟩
 done:=by
  intro X hP hw hK hc i pins s σ H E I hf st hg;subst hP hw hK;obtain⟨xs,hq,hx⟩:=hg;obtain⟨its,rv,p,hz⟩:=I.tuple hq;obtain⟨f0,f1,f2,f3,f4,f5⟩:=hf it (by simp)
  have hl:=rv.length;exact wpAny_pyNext_tuple_end (I.ok.hd hc) st (show s.heap.IsTuple a its.toArray from p) (by simp; omega) fun h' eb=>⟨rfl,I.turned (t':=s.toks) (fun b o hb e=>eb b o hb e) f0 f1 f3 f4 f5⟩
 self:=fun _ _ _ _ _ st h=>wpAny_pyIter_tupleiter st h
theorem CV {P:Program} {w:World} {K:PySem.W.Frag} {tg:Expr} (it:Addr) (lo:Int) (n:Nat):Turn P w K tg (Jz lo n) [it] it (fun i h=>IsRangeIter h it (lo+(i:Nat)*1) ((n:Int)-(i:Nat)) 1) where
 mem:=by simp
 obj:=fun i h st b hb=>by
  have e:b=it:=by simpa using hb
  subst e
  exact⟨_,st,fun v z=>by
   have z':Data.fields _=Data.cell v:=z
   cases z'⟩
 keep:=fun i h h' st k=>k it (by simp) _ st
 item:=by
  intro X hP hw hK hc i pins s σ H E I hf st hg;subst hP hw hK;obtain⟨f0,f1,f2,f3,f4,f5⟩:=hf it (by simp)
  have W:=Walks.range (prog:=X.prog) (w:=X.w) (I.ok.hd hc) it lo 1 n;refine W.item i s _ _ hg st fun v h' tk hv st' kk=>?_;obtain⟨t,rfl⟩:=hv;have I1:Inv X pins σ H { s with heap:=h',toks:=tk }:=I.turned (fun b o hb e=>kk b o (by simpa using hb) e) f0 f1 f3 f4 f5
  refine⟨_,rfl,xr (s:={ s with heap:=h',toks:=tk }) (n:="range_iterator") st' rfl rfl (by decide) ⟨.int (lo+i),H,I1,⟨t,?_⟩,⟨rfl,rfl⟩,st',fun b hb=>(hf b hb).1⟩⟩
  rw[Int.mul_one]
 done:=by
  intro X hP hw hK hc i pins s σ H E I hf st hg;subst hP hw hK;obtain⟨f0,f1,f2,f3,f4,f5⟩:=hf it (by simp)
  exact wpAny_pyNext_range_end (I.ok.hd hc) st (by have:n<=i:=hg; omega) fun h' eb=>⟨rfl,I.turned (t':=s.toks) (fun b o hb e=>eb b o hb e) f0 f1 f3 f4 f5⟩
 self:=fun _ _ _ _ _ st h=>Kr st h
section
variable {X:Cx} {tg:Expr}
def pO (K:PySem.W.Frag) (tl:TE):TI:=fun σ H R=>tl σ H fun x H1=>∃a,x=.ref a/\(∃xs,cV K H1 a xs)/\R (Rh K a) H1
def IK (K:PySem.W.Frag) (tl:TE):TI:=fun σ H R=>tl σ H fun x H1=>∃a,x=.ref a/\(∃xs,fW K H1 a xs)/\R (Rg K a) H1
theorem Ow {l:Expr} {tl:TE} (hl:PE X l tl):PI X tg l (pO X.K tl):=by
 refine .mk ?_;intro pins s σ H R I h;refine cz (hl pins s σ H _ I h) fun v s1 qx=>?_;obtain⟨x,H1,I1,r1,q1⟩:=qx;obtain⟨a,e,⟨xs,hq⟩,q⟩:=q1;subst e;cases r1;obtain⟨its,rv,p,hz⟩:=I1.list hq;refine Dv p.isList ?_;refine⟨s1.heap.objs.size,[s1.heap.objs.size],_,_,H1,rfl,I1.kept (t':=s1.toks) fun b o e=>e_ _ e,Hd a _,⟨_,dN _ rfl,rfl,rfl⟩,fun b hb=>?_,q⟩;have e:b=s1.heap.objs.size:=by simpa using hb
 subst e;exact I1.vg (bG _) (I1.hok.fresh (bG _))
theorem R6 {l:Expr} {tl:TE} (hl:PE X l tl):PI X tg l (IK X.K tl):=by
 refine .mk ?_;intro pins s σ H R I h;refine cz (hl pins s σ H _ I h) fun v s1 qx=>?_;obtain⟨x,H1,I1,r1,q1⟩:=qx;obtain⟨a,e,⟨xs,hq⟩,q⟩:=q1;subst e;cases r1;obtain⟨its,rv,p,hz⟩:=I1.tuple hq;refine wpAny_pyIter_tuple (show s1.heap.IsTuple a its.toArray from p) ?_;refine⟨s1.heap.objs.size,[s1.heap.objs.size],_,_,H1,rfl,I1.kept (t':=s1.toks) fun b o e=>e_ _ e,CQ a _,⟨_,dN _ rfl,rfl,rfl⟩,fun b hb=>?_,q⟩;have e:b=s1.heap.objs.size:=by simpa using hb
 subst e;exact I1.vg (bG _) (I1.hok.fresh (bG _))
theorem Kl {pins:List (Addr×Obj)} {σ:St} {H:Hp} {s:Shared} {R:It->Hp->Prop} {E:Value->Shared->Prop} {lo hi:Int} {t u v:Tok} {tk:Nat} (I:Inv X pins σ H s) (h1:-(2 ^ 62)<=lo) (h2:lo<2 ^ 62) (h3:-(2 ^ 62)<=hi) (h4:hi<2 ^ 62)
  (q:R (Jz lo (hi-lo).toNat) H):wpAny (model X.prog X.w) X.A (pyIter (.ref s.heap.objs.size)) (PIE X pins σ tg R) E { s with heap:=s.heap.push { cls:=.type "range",data:=.fields #[.int lo t,.int hi u,.int 1 v] },toks:=tk }:=by
 refine wpAny_pyIter_range (IsRange.new ..) (small_one h1 h2 h3 h4) ?_;have I1:Inv X pins σ H { s with heap:=s.heap.push { cls:=.type "range",data:=.fields #[.int lo t,.int hi u,.int 1 v] },toks:=tk }:=I.kept fun b o e=>e_ _ e
 refine⟨(s.heap.push { cls:=.type "range",data:=.fields #[.int lo t,.int hi u,.int 1 v] }).objs.size,[(s.heap.push { cls:=.type "range",data:=.fields #[.int lo t,.int hi u,.int 1 v] }).objs.size],_,_,H,rfl,
  I1.kept (t':=tk) fun b o e=>e_ _ e,CV _ lo (hi-lo).toNat,?_,fun b hb=>?_,q⟩
 ·have e1:lo+((0:Nat):Int)*1=lo:=by simp
  have e2:(((hi-lo).toNat:Nat):Int)-((0:Nat):Int)=Builtin.Range.rangeSize lo hi 1:=by rw[rangeSize_one]; split <;> omega
  show IsRangeIter _ _ (lo+((0:Nat):Int)*1) ((((hi-lo).toNat:Nat):Int)-((0:Nat):Int)) 1;rw[e1,e2];exact dN _ rfl
 ·have e:b=(s.heap.push { cls:=.type "range",data:=.fields #[.int lo t,.int hi u,.int 1 v] }).objs.size:=by simpa using hb
  subst e;exact I1.vg (bG _) (I1.hok.fresh (bG _))
def xq (ta:TA):TI:=fun σ H R=>ta σ H fun vs H1=>∃j:Int,vs=[.int j]/\-(2 ^ 62)<=j/\j<2 ^ 62/\R (Jz 0 j.toNat) H1
theorem dR {a:Expr} {ta:TA} {p pos:Pos} (hg:Gl X "range") (hm:X.mg "range" = none) (ha:PA X [a] ta) (hs:starEach [a] X.env=[(false,eval a X.env)]:=by rfl):PI X tg (.Call (.Name "range" p) [a] [] pos) (xq ta):=by
 refine .mk ?_;intro pins s σ H R I h;refine Call_ (jz I hg hm boot_range (PyProof.Rows.callWith_type1 (cz (ha pos pins s σ H _ I h) fun us s1 ⟨vs,H1,I1,r1,q1⟩=>?_) hs rfl));obtain⟨j,e,q1,q2,q⟩:=q1;subst e;cases r1 with
 | cons r rr=>
  cases rr;obtain⟨t,rfl⟩:=r;exact call_range_1 (Kl I1 (by omega) (by omega) q1 q2 (by simpa using q))
def CZ (wi:TI) (g:TG) (tb:TS):TS:=fun D σ H=>wi σ H fun J H1=>∃W:Nat->Nat->St->Hp->Prop,(∃m,W 0 m σ H1)/\∀i m σ H,W i m σ H ->
 (J.stop i H/\D.nx σ H)\/(J.go i H/\∃N:St->Hp->Prop,(∀σ' H',N σ' H'->∃m',m'<m/\W (i+1) m' σ' H')/\∀x H',J.Fi i H x H'->g x σ H' fun σ2 H2=>tb { D with nx:=N,ct:=N,bk:=D.nx } σ2 H2)
def yD (fp:List Addr) (h:Heap):List (Addr×Obj):=fp.filterMap fun b=>(h.get? b).map fun o=>(b,o)
theorem cU {fp:List Addr} {h:Heap} {b:Addr} {o:Obj} (hb:b∈fp) (e:h.get? b=some o):(b,o)∈yD fp h:=List.mem_filterMap.mpr ⟨b,hb,by rw[e]; rfl⟩
theorem Ih {fp:List Addr} {h:Heap} {p:Addr×Obj} (hp:p∈yD fp h):p.1∈fp/\h.get? p.1=some p.2:=by
 obtain⟨b,hb,e⟩:=List.mem_filterMap.mp hp;cases q:h.get? b with
 | none=>rw[q] at e; cases e
 | some o=>
  rw[q] at e;have e':(b,o)=p:=Option.some.inj e;subst e';exact⟨hb,q⟩
theorem Inv.pinned {pins:List (Addr×Obj)} {σ:St} {H:Hp} {s:Shared} {fp:List Addr} (I:Inv X pins σ H s) (hf:∀b∈fp,fK X pins H b) (ho:∀b∈fp,∃o,s.heap.get? b=some o/\∀v,o.data≠.cell v):Inv X (pins++yD fp s.heap) σ H s:=
 I.Gg fun p hp=>(fC.mp hp).elim (fun z=>I.pin p (gH _ z)) fun z=>by
  obtain⟨hb,e⟩:=Ih z;obtain⟨f0,f1,f2,_⟩:=hf p.1 hb;obtain⟨o,e',d⟩:=ho p.1 hb;rw[e] at e'; cases e';exact⟨e,f0,f1,f2,d⟩
theorem Inv.gB {pins pl:List (Addr×Obj)} {σ:St} {H:Hp} {s:Shared} (I:Inv X (pins++pl) σ H s):Inv X pins σ H s:=I.Gg fun p hp=>I.pin p (gH _ (DG _ hp))
theorem gP {iter:Expr} {body:List Stmt} {wi:TI} {g:TG} {tb:TS} {pos:Pos} (hp:PassesOwn (model X.prog X.w) X.A X.env X.xe) (hc:X.calm=true) (hi:PI X tg iter wi) (hg:PG X tg g) (hb:Cq X body tb)
  (hs:∀x,foldedSetIterable iter X.env x=pure x:=by intro _; rfl):PS X (.For tg iter body [] pos) (CZ wi g tb):=by
 refine .mk ?_;intro pins s σ H D I h;refine wpAny_For (cz (hi pins s σ H _ I h) fun v s1 h1=>cz h1 fun itv s2 h2=>?_) hs;obtain⟨it,fp,tn,J,H2,e,I2,T,st2,f2,W,⟨m0,w0⟩,turn⟩:=h2;subst e;have stat:∀{H':Hp},(∀b∈fp,H' b=none)->∀b∈fp,fK X pins H' b:=fun hn b hb=>⟨hn b hb,(f2 b hb).2⟩;refine codeAny_forLoop_any (fun n s'=>∃i σ' H',Inv X pins σ' H' s'/\tn i s'.heap/\(∀b∈fp,H' b=none)/\W i n σ' H') ?_ m0 ⟨0,σ,H2,I2,st2,fun b hb=>(f2 b hb).1,w0⟩;rintro n s3 ⟨i,σ3,H3,I3,st3,fr3,w3⟩;rcases turn i n σ3 H3 w3 with⟨stop,qn⟩ | ⟨go,N,hN,step⟩
 ·refine Km hp (cz (T.done X rfl rfl rfl hc i pins s3 σ3 H3 X.xe I3 (stat fr3) st3 stop) fun r s4 qx=>?_);obtain⟨hr,I4⟩:=qx;subst hr;exact wpAny_execs_nil ⟨σ3,H3,I4,qn⟩
 ·refine Km hp (cz (T.item X rfl rfl rfl hc i pins s3 σ3 H3 X.xe I3 (stat fr3) st3 go) fun r s4 qx=>?_);obtain⟨u,hr,h4⟩:=qx;subst hr;refine Km hp (cz h4 fun _ s5 qx=>?_);obtain⟨x,H5,I5,r5,y5,NK,TY⟩:=qx;have I5':=I5.pinned (stat TY) (T.obj _ _ NK);refine Km hp (cz (hg _ s5 σ3 H5 x u _ I5' r5 (step x H5 y5)) fun _ s6 qx=>?_);obtain⟨σ6,H6,I6,q6⟩:=qx;refine Km hp (cz (hb _ s6 σ6 H6 _ I6 q6) fun f s7 q7=>?_)
  have again:∀{σ7:St} {H7:Hp},Inv X (pins++yD fp s5.heap) σ7 H7 s7->N σ7 H7->∃m,m<n/\∃i σ' H',Inv X pins σ' H' s7/\tn i s7.heap/\(∀b∈fp,H' b=none)/\W i m σ' H':=fun {σ7 H7} I7 n7=>by
   obtain⟨m',hm,w7⟩:=hN σ7 H7 n7;refine⟨m',hm,i+1,σ7,H7,I7.gB,T.keep _ _ _ NK fun b hb o e=>(I7.pin (b,o) (gH _ (gH _ (cU hb e)))).1,fun b hb=>?_,w7⟩;obtain⟨o,e,d⟩:=T.obj _ _ NK b hb;exact(I7.pin (b,o) (gH _ (gH _ (cU hb e)))).2.1
  cases f with
  | next=>obtain⟨σ7,H7,I7,n7⟩:=q7; exact again I7 n7
  | cont=>obtain⟨σ7,H7,I7,n7⟩:=q7; exact again I7 n7
  | brk=>obtain⟨σ7,H7,I7,q7⟩:=q7; exact⟨σ7,H7,I7.gB,q7⟩
  | ret v=>obtain⟨x7,σ7,H7,I7,r7,q7⟩:=q7; exact⟨x7,σ7,H7,I7.gB,r7,q7⟩
end
theorem LC {K:PySem.W.Frag} {a:Addr} {xs:List V} {g:TG} {tb:TS} {D:Ends} {σ:St} {H:Hp} (Pv:Nat->St->Hp->Prop) (h0:Pv 0 σ H) (hl:∀i σ H,i<=xs.length->Pv i σ H->cV K H a xs)
  (hs:∀i x σ H,xs[i]?=some x->Pv i σ H->g x σ H fun σ2 H2=>tb { D with nx:=Pv (i+1),ct:=Pv (i+1),bk:=D.nx } σ2 H2) (hd:∀σ H,Pv xs.length σ H->D.nx σ H) :
  ∃W:Nat->Nat->St->Hp->Prop,(∃m,W 0 m σ H)/\∀i m σ H,W i m σ H ->
   ((Rh K a).stop i H/\D.nx σ H)\/((Rh K a).go i H/\∃N:St->Hp->Prop,(∀σ' H',N σ' H'->∃m',m'<m/\W (i+1) m' σ' H')/\∀x H',(Rh K a).Fi i H x H'->g x σ H' fun σ2 H2=>tb { D with nx:=N,ct:=N,bk:=D.nx } σ2 H2):=by
 refine⟨fun i m σ H=>m=xs.length-i/\i<=xs.length/\Pv i σ H,⟨xs.length,by simp,iY _,h0⟩,?_⟩
 rintro i m σ H ⟨rfl,hi,p⟩;have q:=hl i σ H hi p;by_cases hlt:i<xs.length
 ·refine .inr ⟨⟨xs,xs[i],q,by simp[hlt]⟩,Pv (i+1),fun σ' H' p'=>⟨xs.length-(i+1),by omega,rfl,hlt,p'⟩,fun x H' y=>?_⟩
  obtain⟨e,y⟩:=y;subst e;exact hs i x σ _ (y xs q) p
 ·have e:i=xs.length:=by omega
  subst e;exact .inl ⟨⟨xs,q,bG _⟩,hd σ H p⟩
theorem P_ {K:PySem.W.Frag} {a:Addr} {xs:List V} {g:TG} {tb:TS} {D:Ends} {σ:St} {H:Hp} (Pv:Nat->St->Hp->Prop) (h0:Pv 0 σ H) (hl:∀i σ H,i<=xs.length->Pv i σ H->fW K H a xs)
  (hs:∀i x σ H,xs[i]?=some x->Pv i σ H->g x σ H fun σ2 H2=>tb { D with nx:=Pv (i+1),ct:=Pv (i+1),bk:=D.nx } σ2 H2) (hd:∀σ H,Pv xs.length σ H->D.nx σ H) :
  ∃W:Nat->Nat->St->Hp->Prop,(∃m,W 0 m σ H)/\∀i m σ H,W i m σ H ->
   ((Rg K a).stop i H/\D.nx σ H)\/((Rg K a).go i H/\∃N:St->Hp->Prop,(∀σ' H',N σ' H'->∃m',m'<m/\W (i+1) m' σ' H')/\∀x H',(Rg K a).Fi i H x H'->g x σ H' fun σ2 H2=>tb { D with nx:=N,ct:=N,bk:=D.nx } σ2 H2):=by
 refine⟨fun i m σ H=>m=xs.length-i/\i<=xs.length/\Pv i σ H,⟨xs.length,by simp,iY _,h0⟩,?_⟩
 rintro i m σ H ⟨rfl,hi,p⟩;have q:=hl i σ H hi p;by_cases hlt:i<xs.length
 ·refine .inr ⟨⟨xs,xs[i],q,by simp[hlt]⟩,Pv (i+1),fun σ' H' p'=>⟨xs.length-(i+1),by omega,rfl,hlt,p'⟩,fun x H' y=>?_⟩
  obtain⟨e,y⟩:=y;subst e;exact hs i x σ _ (y xs q) p
 ·have e:i=xs.length:=by omega
  subst e;exact .inl ⟨⟨xs,q,bG _⟩,hd σ H p⟩
theorem xx {lo:Int} {n:Nat} {g:TG} {tb:TS} {D:Ends} {σ:St} {H:Hp} (Pv:Nat->St->Hp->Prop) (h0:Pv 0 σ H)
  (hs:∀i σ H,i<n->Pv i σ H->g (.int (lo+i)) σ H fun σ2 H2=>tb { D with nx:=Pv (i+1),ct:=Pv (i+1),bk:=D.nx } σ2 H2) (hd:∀σ H,Pv n σ H->D.nx σ H) :
  ∃W:Nat->Nat->St->Hp->Prop,(∃m,W 0 m σ H)/\∀i m σ H,W i m σ H ->
   ((Jz lo n).stop i H/\D.nx σ H)\/((Jz lo n).go i H/\∃N:St->Hp->Prop,(∀σ' H',N σ' H'->∃m',m'<m/\W (i+1) m' σ' H')/\∀x H',(Jz lo n).Fi i H x H'->g x σ H' fun σ2 H2=>tb { D with nx:=N,ct:=N,bk:=D.nx } σ2 H2):=by
 refine⟨fun i m σ H=>m=n-i/\i<=n/\Pv i σ H,⟨n,by simp,iY _,h0⟩,?_⟩
 rintro i m σ H ⟨rfl,hi,p⟩;by_cases hlt:i<n
 ·refine .inr ⟨hlt,Pv (i+1),fun σ' H' p'=>⟨n-(i+1),by omega,rfl,hlt,p'⟩,fun x H' y=>?_⟩
  obtain⟨e,y⟩:=y;subst e y;exact hs i σ _ hlt p
 ·have e:i=n:=by omega
  subst e;exact .inl ⟨bG _,hd σ H p⟩
abbrev R2:=V->V->Hp->VK->Prop
structure mj (X:Cx) (f:Value->Value->Sem Value) (r:R2):Prop where
 mk ::
 go :
 ∀(pins:List (Addr×Obj)) (s:Shared) (σ:St) (H:Hp) (x y:V) (v u:Value) (Q:VK),Inv X pins σ H s->RelV x v->RelV y u->r x y H Q ->
  wpAny (model X.prog X.w) X.A (f v u) (EP X pins σ Q) X.xe s
instance {X:Cx} {f:Value->Value->Sem Value} {r:R2}:CoeFun (mj X f r) (fun _=>
 ∀(pins:List (Addr×Obj)) (s:Shared) (σ:St) (H:Hp) (x y:V) (v u:Value) (Q:VK),Inv X pins σ H s->RelV x v->RelV y u->r x y H Q ->
  wpAny (model X.prog X.w) X.A (f v u) (EP X pins σ Q) X.xe s):=⟨mj.go⟩
structure XS (X:Cx) (f:Value->Sem Value) (r:V->Hp->VK->Prop):Prop where
 mk ::
 go :
 ∀(pins:List (Addr×Obj)) (s:Shared) (σ:St) (H:Hp) (x:V) (v:Value) (Q:VK),Inv X pins σ H s->RelV x v->r x H Q ->
  wpAny (model X.prog X.w) X.A (f v) (EP X pins σ Q) X.xe s
instance {X:Cx} {f:Value->Sem Value} {r:V->Hp->VK->Prop}:CoeFun (XS X f r) (fun _=>
 ∀(pins:List (Addr×Obj)) (s:Shared) (σ:St) (H:Hp) (x:V) (v:Value) (Q:VK),Inv X pins σ H s->RelV x v->r x H Q ->
  wpAny (model X.prog X.w) X.A (f v) (EP X pins σ Q) X.xe s):=⟨XS.go⟩
structure du (X:Cx) (f:Value) (r:List V->Hp->VK->Prop):Prop where
 mk ::
 go :
 ∀(pins:List (Addr×Obj)) (s:Shared) (σ:St) (H:Hp) (xs:List V) (us:List Value) (Q:VK),Inv X pins σ H s->Vals xs us->r xs H Q ->
  wpAny (model X.prog X.w) X.A (call f us) (EP X pins σ Q) X.xe s
instance {X:Cx} {f:Value} {r:List V->Hp->VK->Prop}:CoeFun (du X f r) (fun _=>
 ∀(pins:List (Addr×Obj)) (s:Shared) (σ:St) (H:Hp) (xs:List V) (us:List Value) (Q:VK),Inv X pins σ H s->Vals xs us->r xs H Q ->
  wpAny (model X.prog X.w) X.A (call f us) (EP X pins σ Q) X.xe s):=⟨du.go⟩
def Ry (r:R2) (ta tb:TE):TE:=fun σ H Q=>ta σ H fun x H1=>tb σ H1 fun y H2=>r x y H2 Q
def tUn (r:V->Hp->VK->Prop) (ta:TE):TE:=fun σ H Q=>ta σ H fun x H1=>r x H1 Q
def rI (C:Int->Int->Prop) (g:Int->Int->V):R2:=fun x y H Q=>∃i j,x=.int i/\y=.int j/\C i j/\Q (g i j) H
def Og (g:Int->Int->V):R2:=fun x y H Q=>∃i j,x=.int i/\y=.int j/\Q (g i j) H
def rU (g:Int->V):V->Hp->VK->Prop:=fun x H Q=>∃i,x=.int i/\Q (g i) H
section
variable {X:Cx} {a b c:Expr} {ta tb tc:TE} {pos:Pos}
theorem Um (ha:PE X a ta) (hb:PE X b tb) {pins:List (Addr×Obj)} {s:Shared} {σ:St} {H:Hp} {R:V->V->Hp->Prop} (I:Inv X pins σ H s)
  (h:ta σ H fun x H1=>tb σ H1 fun y H2=>R x y H2) {Q:Value->Shared->Prop} {f:Value->Value->Sem Value}
  (hf:∀v u s2 x y H2,Inv X pins σ H2 s2->RelV x v->RelV y u->R x y H2->wpAny (model X.prog X.w) X.A (f v u) Q X.xe s2) :
  wpAny (model X.prog X.w) X.A (eval a X.env) (fun v s₁=>wpAny (model X.prog X.w) X.A (eval b X.env) (fun u s₂=>wpAny (model X.prog X.w) X.A (f v u) Q X.xe s₂) X.xe s₁) X.xe s:=by
 refine cz (ha pins s σ H _ I h) fun v s1 qx=>?_;obtain⟨x,H1,I1,r1,q1⟩:=qx;refine cz (hb pins s1 σ H1 _ I1 q1) fun u s2 qx=>?_;obtain⟨y,H2,I2,r2,q2⟩:=qx;exact hf v u s2 x y H2 I2 r1 r2 q2
theorem aO {op:Operator} {r:R2} (ho:mj X (binaryOp op) r) (ha:PE X a ta) (hb:PE X b tb):PE X (.BinOp a op b pos) (Ry r ta tb):=by
 refine .mk ?_;intro pins s σ H Q I h;exact wpAny_BinOp (Um ha hb I h fun v u s2 x y H2 I2 rx ry q=>ho pins s2 σ H2 x y v u Q I2 rx ry q)
theorem Wy {op:UnaryOp} {r:V->Hp->VK->Prop} (ho:XS X (unaryOp op) r) (ha:PE X a ta):PE X (.UnaryOp op a pos) (tUn r ta):=by
 refine .mk ?_;intro pins s σ H Q I h;exact UnaryOp_ (cz (ha pins s σ H _ I h) fun v s1 ⟨x,H1,I1,r1,q1⟩=>ho pins s1 σ H1 x v Q I1 r1 q1)
theorem WR {f:Value->Value->Sem Value} {C:Int->Int->Prop} {g:Int->Int->Int}
  (rule:∀(i j:Int) (t u:Tok) (s:Shared) (Q:Value->Shared->Prop) (E:Value->Shared->Prop),C i j->Q (.int (g i j) s.toks) { s with toks:=s.toks+1 }->wpAny (model X.prog X.w) X.A (f (.int i t) (.int j u)) Q E s) :
  mj X f (rI C fun i j=>.int (g i j)):=by
 refine .mk ?_;intro pins s σ H x y v u Q I rx ry h;obtain⟨i,j,rfl,rfl,hc,q⟩:=h;obtain⟨t,rfl⟩:=rx;obtain⟨t',rfl⟩:=ry;exact rule i j t t' s _ _ hc ⟨.int (g i j),H,I.tok _,⟨_,rfl⟩,q⟩
theorem WQ {f:Value->Value->Sem Value} {g:Int->Int->Int}
  (rule:∀(i j:Int) (t u:Tok) (s:Shared) (Q:Value->Shared->Prop) (E:Value->Shared->Prop),Q (.int (g i j) s.toks) { s with toks:=s.toks+1 }->wpAny (model X.prog X.w) X.A (f (.int i t) (.int j u)) Q E s) :
  mj X f (Og fun i j=>.int (g i j)):=by
 refine .mk ?_;intro pins s σ H x y v u Q I rx ry h;obtain⟨i,j,rfl,rfl,q⟩:=h;obtain⟨t,rfl⟩:=rx;obtain⟨t',rfl⟩:=ry;exact rule i j t t' s _ _ ⟨.int (g i j),H,I.tok _,⟨_,rfl⟩,q⟩
theorem O7 {f:Value->Value->Sem Value} {g:Int->Int->Bool}
  (rule:∀(i j:Int) (t u:Tok) (s:Shared) (Q:Value->Shared->Prop) (E:Value->Shared->Prop),Q (.bool (g i j)) s->wpAny (model X.prog X.w) X.A (f (.int i t) (.int j u)) Q E s) :
  mj X f (Og fun i j=>.bl (g i j)):=by
 refine .mk ?_;intro pins s σ H x y v u Q I rx ry h;obtain⟨i,j,rfl,rfl,q⟩:=h;obtain⟨t,rfl⟩:=rx;obtain⟨t',rfl⟩:=ry;exact rule i j t t' s _ _ ⟨.bl (g i j),H,I,rfl,q⟩
def abp (i j:Int):Prop:=0<j/\j<1073741824
def abo (i j:Int):Prop:=0<=j/\j<=1000000/\i.natAbs<2 ^ 64
def Qt (i j:Int):Prop:=(-(2 ^ 64)<i/\i<2 ^ 64)\/(-(2 ^ 64)<j/\j<2 ^ 64)
theorem Qt.ok {i j:Int} (h:Qt i j):IntMulOk i j:=by
 rcases h with⟨h1,h2⟩ | ⟨h1,h2⟩
 ·exact .of_left (intBits_le_64 h1 h2)
 ·exact .of_right (intBits_le_64 h1 h2)
theorem bA:mj X (binaryOp .Add) (Og fun i j=>.int (i+j)):=WQ fun _ _ _ _ _ _ _ q=>add_int q
theorem jx:mj X (binaryOp .Sub) (Og fun i j=>.int (i-j)):=WQ fun _ _ _ _ _ _ _ q=>sub_int q
theorem jy:mj X (binaryOp .Mult) (rI Qt fun i j=>.int (i*j)):=WR fun _ _ _ _ _ _ _ hc q=>mul_int q hc.ok
theorem O5:mj X (binaryOp .FloorDiv) (rI abp fun i j=>.int (i / j)):=WR fun i j _ _ _ _ _ hc q=>by
 have h1:(0:Int)<j:=hc.1;have h2:j<1073741824:=hc.2;exact floordiv_int (by omega) (by rw[Int.fdiv_eq_ediv_of_nonneg i (by omega)]; exact q) (.inl (PyProof.noPylong_small (by omega)))
theorem jY:mj X (binaryOp .Mod) (rI (fun _ j=>0<j) fun i j=>.int (i % j)):=WR fun i j _ _ _ _ _ hc q=>by
 have h1:(0:Int)<j:=hc;exact mod_int' (by omega) (by rw[Int.fmod_eq_emod_of_nonneg i (by omega)]; exact q)
theorem ou:mj X (binaryOp .Pow) (rI abo fun i j=>.int (i ^ j.toNat)):=WR fun _ _ _ _ _ _ _ hc q=>pow_int_small hc.1 hc.2.1 hc.2.2 q
theorem unI {f:Value->Sem Value} {g:Int->Int}
  (rule:∀(i:Int) (t:Tok) (s:Shared) (Q:Value->Shared->Prop) (E:Value->Shared->Prop),Q (.int (g i) s.toks) { s with toks:=s.toks+1 }->wpAny (model X.prog X.w) X.A (f (.int i t)) Q E s) :
  XS X f (rU fun i=>.int (g i)):=by
 refine .mk ?_;intro pins s σ H x v Q I rx h;obtain⟨i,rfl,q⟩:=h;obtain⟨t,rfl⟩:=rx;exact rule i t s _ _ ⟨.int (g i),H,I.tok _,⟨_,rfl⟩,q⟩
theorem Rr:XS X (unaryOp .USub) (rU fun i=>.int (-i)):=unI fun _ _ _ _ _ q=>neg_int q
end
def Ho:V->V->Bool
 | .non,.non=>true | .non,.int _=>true | .int _,.non=>true | .non,.bl _=>true | .bl _,.non=>true | .non,.str _=>true | .str _,.non=>true
 | .int _,.int _=>true | .bl _,.bl _=>true | .str _,.str _=>true | .Jm _,.Jm _=>true
 | .int _,.str _=>true | .str _,.int _=>true | .bl _,.str _=>true | .str _,.bl _=>true
 | _,_=>false
def Wu:R2:=fun x y H Q=>Ho x y=true/\Q (.bl (decide (x=y))) H
def Wo:R2:=fun x y H Q=>Ho x y=true/\Q (.bl (!decide (x=y))) H
theorem GJ {i j:Int}:decide (V.int i=V.int j)=(i==j):=by
 rw[Bh];simp
theorem Mf {i j:Bool}:decide (V.bl i=V.bl j)=(i==j):=by
 rw[Bh];simp
theorem GF {i j:Str}:decide (V.str i=V.str j)=(i==j):=by
 rw[Bh];simp
theorem GK {i j:Array UInt8}:decide (V.Jm i=V.Jm j)=(i.toList==j.toList):=by
 rw[Bh];cases i;cases j;simp
section
variable {X:Cx} {a b c:Expr} {ta tb tc:TE} {pos:Pos}
theorem bF {pins:List (Addr×Obj)} {σ:St} {H:Hp} {s:Shared} {Q:VK} {k k':Bool} (I:Inv X pins σ H s) (q:Q (.bl k) H) (e:k=k'):EP X pins σ Q (.bool k') s:=by
 subst e;exact⟨.bl k,H,I,rfl,q⟩
theorem gJ:mj X (compareOp .Eq) Wu:=by
 refine .mk ?_;intro pins s σ H x y v u Q I rx ry h;obtain⟨hs,q⟩:=h;cases x with
 | non=>
  cases rx;cases y with
  | non=>cases ry; exact PySem.EqNone.eq_none_none (bF I q (by simp))
  | bl j=>cases ry; exact PySem.EqNone.eq_none_bool (bF I q (by simp))
  | int j=>obtain⟨t',rfl⟩:=ry; exact PySem.EqNone.eq_none_int (bF I q (by simp))
  | str j=>obtain⟨t',rfl⟩:=ry; exact PySem.EqNone.eq_none_str (bF I q (by simp))
  | _=>exact absurd (show false=true from hs) jw
 | bl i=>
  cases rx;cases y with
  | non=>cases ry; exact PySem.EqNone.eq_bool_none (bF I q (by simp))
  | bl j=>cases ry; exact eq_bool (bF I q Mf)
  | str j=>obtain⟨t',rfl⟩:=ry; exact PySem.EqMixed.eq_bool_str (bF I q (by simp))
  | _=>exact absurd (show false=true from hs) jw
 | int i=>
  obtain⟨t,rfl⟩:=rx;cases y with
  | non=>cases ry; exact PySem.EqNone.eq_int_none (bF I q (by simp))
  | int j=>obtain⟨t',rfl⟩:=ry; exact eq_int (bF I q GJ)
  | str j=>obtain⟨t',rfl⟩:=ry; exact PySem.EqMixed.eq_int_str (bF I q (by simp))
  | _=>exact absurd (show false=true from hs) jw
 | str i=>
  obtain⟨t,rfl⟩:=rx;cases y with
  | non=>cases ry; exact PySem.EqNone.eq_str_none (bF I q (by simp))
  | bl j=>cases ry; exact PySem.EqMixed.eq_str_bool (bF I q (by simp))
  | int j=>obtain⟨t',rfl⟩:=ry; exact PySem.EqMixed.eq_str_int (bF I q (by simp))
  | str j=>obtain⟨t',rfl⟩:=ry; exact eq_str (bF I q GF)
  | _=>exact absurd (show false=true from hs) jw
 | Jm i=>
  obtain⟨t,rfl⟩:=rx;cases y with
  | Jm j=>obtain⟨t',rfl⟩:=ry; exact PySem.W.eq_bytes (bF I q GK)
  | _=>exact absurd (show false=true from hs) jw
 | _=>cases y <;> exact absurd (show false=true from hs) jw
theorem WM:mj X (compareOp .NotEq) Wo:=by
 refine .mk ?_;intro pins s σ H x y v u Q I rx ry h;obtain⟨hs,q⟩:=h;cases x with
 | non=>
  cases rx;cases y with
  | non=>cases ry; exact PySem.EqNone.ne_none_none (bF I q (by simp))
  | bl j=>cases ry; exact PySem.EqNone.ne_none_bool (bF I q (by simp))
  | int j=>obtain⟨t',rfl⟩:=ry; exact PySem.EqNone.ne_none_int (bF I q (by simp))
  | str j=>obtain⟨t',rfl⟩:=ry; exact PySem.EqNone.ne_none_str (bF I q (by simp))
  | _=>exact absurd (show false=true from hs) jw
 | bl i=>
  cases rx;cases y with
  | non=>cases ry; exact PySem.EqNone.ne_bool_none (bF I q (by simp))
  | bl j=>cases ry; exact ne_bool (bF I q (nR not Mf))
  | str j=>obtain⟨t',rfl⟩:=ry; exact PySem.EqMixed.ne_bool_str (bF I q (by simp))
  | _=>exact absurd (show false=true from hs) jw
 | int i=>
  obtain⟨t,rfl⟩:=rx;cases y with
  | non=>cases ry; exact PySem.EqNone.ne_int_none (bF I q (by simp))
  | int j=>obtain⟨t',rfl⟩:=ry; exact ne_int (bF I q (nR not GJ))
  | str j=>obtain⟨t',rfl⟩:=ry; exact PySem.EqMixed.ne_int_str (bF I q (by simp))
  | _=>exact absurd (show false=true from hs) jw
 | str i=>
  obtain⟨t,rfl⟩:=rx;cases y with
  | non=>cases ry; exact PySem.EqNone.ne_str_none (bF I q (by simp))
  | bl j=>cases ry; exact PySem.EqMixed.ne_str_bool (bF I q (by simp))
  | int j=>obtain⟨t',rfl⟩:=ry; exact PySem.EqMixed.ne_str_int (bF I q (by simp))
  | str j=>obtain⟨t',rfl⟩:=ry; exact ne_str (bF I q (nR not GF))
  | _=>exact absurd (show false=true from hs) jw
 | Jm i=>
  obtain⟨t,rfl⟩:=rx;cases y with
  | Jm j=>obtain⟨t',rfl⟩:=ry; exact PySem.W.ne_bytes (bF I q (nR not GK))
  | _=>exact absurd (show false=true from hs) jw
 | _=>cases y <;> exact absurd (show false=true from hs) jw
theorem uM:mj X (compareOp .Lt) (Og fun i j=>.bl (decide (i<j))):=O7 fun _ _ _ _ _ _ _ q=>lt_int q
theorem Gj:mj X (compareOp .LtE) (Og fun i j=>.bl (decide (i<=j))):=O7 fun _ _ _ _ _ _ _ q=>le_int q
theorem Bo:mj X (compareOp .Gt) (Og fun i j=>.bl (decide (j<i))):=O7 fun _ _ _ _ _ _ _ q=>gt_int q
theorem WN:mj X (compareOp .GtE) (Og fun i j=>.bl (decide (j<=i))):=O7 fun _ _ _ _ _ _ _ q=>ge_int q
theorem HS:mj X (compareOp .In) (fun x y H Q=>∃i j,x=.str i/\y=.str j/\Q (.bl (!(Builtin.Str.occurrences j i 0 j.length 1).isEmpty)) H):=by
 refine .mk ?_;intro pins s σ H x y v u Q I rx ry h;obtain⟨i,j,rfl,rfl,q⟩:=h;obtain⟨t,rfl⟩:=rx;obtain⟨t',rfl⟩:=ry;exact in_str (bF I q rfl)
theorem DR:mj X (compareOp .Is) (fun x y H Q=>y=.non/\Q (.bl (decide (x=.non))) H):=by
 refine .mk ?_;intro pins s σ H x y v u Q I rx ry h;obtain⟨rfl,q⟩:=h;cases ry;refine is_none_gen (bF I q ?_);cases x <;> first
  | (cases rx; rfl)
  | (obtain⟨t,rfl⟩:=rx; rfl)
theorem sX:mj X (compareOp .IsNot) (fun x y H Q=>y=.non/\Q (.bl (!decide (x=.non))) H):=by
 refine .mk ?_;intro pins s σ H x y v u Q I rx ry h;obtain⟨rfl,q⟩:=h;cases ry;refine isnot_none_gen (bF I q ?_);cases x <;> first
  | (cases rx; rfl)
  | (obtain⟨t,rfl⟩:=rx; rfl)
theorem bh (b:Expr) {op:CmpOp} (h:op≠.In:=by decide) (h2:op≠.NotIn:=by decide):behindInMarks op b=false:=by
 have e1:(op==CmpOp.In)=false:=by cases op <;> first | rfl | exact absurd rfl h
 have e2:(op==CmpOp.NotIn)=false:=by cases op <;> first | rfl | exact absurd rfl h2
 cases b <;> simp[behindInMarks,e1,e2]
theorem gk {op:CmpOp} {r:R2} (ho:mj X (compareOp op) r) (ha:PE X a ta) (hb:PE X b tb) (hm:behindInMarks op b=false):PE X (.Compare a [op] [b] pos) (Ry r ta tb):=by
 refine .mk ?_;intro pins s σ H Q I h;exact wpAny_Compare1 (Um ha hb I h fun v u s2 x y H2 I2 rx ry q=>ho pins s2 σ H2 x y v u Q I2 rx ry q) hm
def JR (t:TE):TT:=fun σ H Q=>t σ H fun x H'=>∃k,x=.bl k/\Q k H'
theorem aZ {op:CmpOp} {r:R2} (ho:mj X (compareOp op) r) (ha:PE X a ta) (hb:PE X b tb) (hm:behindInMarks op b=false):PT X (.Compare a [op] [b] pos) (JR (Ry r ta tb)):=by
 refine .mk ?_;intro pins s σ H Q I h
 refine wpAny_isTrue_Compare1 (cz (ha pins s σ H _ I h) fun v s1 ⟨x,H1,I1,r1,q1⟩=>cz (hb pins s1 σ H1 _ I1 q1) fun u s2 ⟨y,H2,I2,r2,q2⟩=>
  cz (ho pins s2 σ H2 x y v u _ I2 r1 r2 q2) fun c s3 ⟨z,H3,I3,r3,k,e,q3⟩=>?_) hm
 subst e;cases r3;exact Dw ⟨H3,I3,q3⟩
def JW (r r':R2) (ta tb tc:TE):TE:=fun σ H Q=>ta σ H fun x H1=>tb σ H1 fun y H2=>r x y H2 fun z H3=>∃k,z=.bl k /\
 (if k=true then tc σ H3 fun w' H4=>r' y w' H4 Q else Q (.bl false) H3)
theorem Bl {op op':CmpOp} {r r':R2} (ho:mj X (compareOp op) r) (ho':mj X (compareOp op') r') (ha:PE X a ta) (hb:PE X b tb) (hc:PE X c tc)
  (hm:lastMarks [op,op'] [b,c]=false:=by with_unfolding_all rfl):PT X (.Compare a [op,op'] [b,c] pos) (JR (JW r r' ta tb tc)):=by
 refine .mk ?_;intro pins s σ H Q I h
 refine isTrue_chain (cz (ha pins s σ H _ I h) fun v s1 ⟨x,H1,I1,r1,q1⟩=>test_link (cz (hb pins s1 σ H1 _ I1 q1) fun u s2 ⟨y,H2,I2,r2,q2⟩=>
  cz (ho pins s2 σ H2 x y v u _ I2 r1 r2 q2) fun d s3 ⟨z,H3,I3,r3,k,e,q3⟩=>?_)) hm
 subst e;cases r3;refine Dw ?_;cases k with
 | false=>
  obtain⟨k',e',q'⟩:=q3;cases e';exact ite_ff ⟨H3,I3,q'⟩
 | true=>
  refine ite_tt (test_last (cz (hc pins s3 σ H3 _ I3 q3) fun w' s4 ⟨z',H4,I4,r4,q4⟩=>cz (ho' pins s4 σ H4 y z' u w' _ I4 r2 r4 q4) fun d' s5 qx=>?_));obtain⟨z2,H5,I5,r5,k2,e2,q5⟩:=qx;subst e2;cases r5;exact Dw ⟨H5,I5,q5⟩
def abf (K:PySem.W.Frag) (x:V) (H:Hp) (k:Bool):Prop:=
 match x with
 | .non=>k=false
 | .bl b=>k=b
 | .int i=>k=(i != 0)
 | .str y=>y.length<=sizeLine/\k=((y.length:Int) != 0)
 | .Jm y=>y.size<=sizeLine/\k=((y.size:Int) != 0)
 | .ref p=>(∃xs,cV K H p xs/\k = !xs.isEmpty)\/(∃xs,fW K H p xs/\k = !xs.isEmpty)\/∃kvs,H p=some (.dK kvs)/\k = !kvs.isEmpty
 | _=>False
theorem oG:(sizeLine:Nat)<2 ^ 63:=by rw[sizeLine_eq]; decide
theorem oA:mj X (binaryOp .Add) (fun x y H Q=>∃i j,x=.str i/\y=.str j/\i.length+j.length<=sizeLine/\Q (.str (i++j)) H):=by
 refine .mk ?_;intro pins s σ H x y v u Q I rx ry h;obtain⟨i,j,rfl,rfl,hz,q⟩:=h;obtain⟨t,rfl⟩:=rx;obtain⟨t',rfl⟩:=ry;exact add_str (fun t' tk=>⟨.str (i++j),H,I.tok _,⟨_,rfl⟩,q⟩) hz
theorem vals1 {x:V} {us:List Value} (r:Vals [x] us):∃u,us=[u]/\RelV x u:=by
 cases r with
 | cons r1 r2=>cases r2; exact⟨_,rfl,r1⟩
theorem vals2 {x y:V} {us:List Value} (r:Vals [x,y] us):∃u w',us=[u,w']/\RelV x u/\RelV y w':=by
 cases r with
 | cons r1 r2=>
  cases r2 with
  | cons r3 r4=>cases r4; exact⟨_,_,rfl,r1,r3⟩
theorem BZ:du X (.builtin "abs") (fun xs H Q=>∃i,xs=[.int i]/\Q (.int (if i<0 then -i else i)) H):=by
 refine .mk ?_;intro pins s σ H xs us Q I r h;obtain⟨i,rfl,q⟩:=h;obtain⟨u,rfl,t,rfl⟩:=vals1 r;exact call_abs_int fun u tk=>⟨.int (if i<0 then -i else i),H,I.tok _,⟨_,rfl⟩,q⟩
theorem fV (hc:X.calm=true):du X (.builtin "max") (fun xs H Q=>∃i j,xs=[.int i,.int j]/\Q (.int (if j>i then j else i)) H):=by
 refine .mk ?_;intro pins s σ H xs us Q I r h;obtain⟨i,j,rfl,q⟩:=h;obtain⟨u,w',rfl,⟨t,rfl⟩,⟨t',rfl⟩⟩:=vals2 r;refine max_two_ints (I.ok.hd hc) fun h' tk k=>⟨_,H,I.kept k,?_,q⟩;by_cases hj:j>i
 ·rw[a_ hj,a_ hj]; exact⟨_,rfl⟩
 ·rw[aV hj,aV hj]; exact⟨_,rfl⟩
theorem fj (hc:X.calm=true):du X (.builtin "min") (fun xs H Q=>∃i j,xs=[.int i,.int j]/\Q (.int (if j<i then j else i)) H):=by
 refine .mk ?_;intro pins s σ H xs us Q I r h;obtain⟨i,j,rfl,q⟩:=h;obtain⟨u,w',rfl,⟨t,rfl⟩,⟨t',rfl⟩⟩:=vals2 r;refine min_two_ints (I.ok.hd hc) fun h' tk k=>⟨_,H,I.kept k,?_,q⟩;by_cases hj:j<i
 ·rw[a_ hj,a_ hj]; exact⟨_,rfl⟩
 ·rw[aV hj,aV hj]; exact⟨_,rfl⟩
end
structure EY (h:Heap) (x dx C:Addr) (mA:Str->Option Value):Prop where
 obj:h.get? x=some (PySem.W.instObj C dx)
 ns:h.Ns1 dx mA
 ne:dx≠x
theorem Io {h:Heap} {dx:Addr} {mA:Str->Option Value} (n:h.Ns1 dx mA):∃od,h.get? dx=some od/\∀name,PySem.W.lookIn name od=some (mA name):=by
 obtain⟨o,es,ep,ho,hd,hk,_,hm⟩:=n;refine⟨o,ho,fun name=>?_⟩;have e:=hm name;unfold nsFind findBy at e;rw[<- Array.find?_toList] at e;unfold PySem.W.lookIn;rw[hd];dsimp only;split
 ·rename_i y q;rw[q] at e;exact nR some e
 ·rename_i q;rw[q] at e
  have a:es.toList.any (·.refKey)=false:=by
   rw[List.any_eq_false];intro y hy;obtain⟨z,t,hkey⟩:=hk y (Array.mem_toList_iff.mp hy);simp[DictEntry.refKey,hkey]
  have a':¬es.toList.any (·.refKey)=true:=by rw[a]; exact jw
  rw[aV a'];exact nR some e
theorem EY.look {h:Heap} {x dx C:Addr} {mA:Str->Option Value} (I:EY h x dx C mA):∃od,PySem.W.InstAt h x (PySem.W.instObj C dx) C (some od)/\∀name,PySem.W.lookIn name od=some (mA name):=
 let ⟨od,ho,hl⟩:=Io I.ns
 ⟨od,⟨I.obj,rfl,rfl,ho⟩,hl⟩
section
variable {prog:Program} {w:World} {A:Around} {E:Value->Shared->Prop} {s:Shared} {K:PySem.W.Frag} {x dx C f:Addr} {mA:Str->Option Value} {name:Str} {v:Value}
theorem get_map {expr:Bool} {Q:Value->Shared->Prop} (X:K.In s.heap) (I:EY s.heap x dx C mA) (hg:PySem.W.plainGet K C name=true) (hh:PySem.W.hasDictIn K C=true)
  (ha:PySem.W.findIn K (.ref C) name=some none) (hv:mA name=some v) (hv':PySem.W.handedIn v=true) (h:Q v { s with toks:=s.toks+1 }) :
  wpAny (model prog w) A (getAttr (.ref x) name expr) Q E s:=by
 obtain⟨od,J,hl⟩:=I.look;exact PySem.W.get_value X J (PySem.W.plainGet_of hg).1 (PySem.W.findObj_own hh ha rfl (by rw[hl,hv])) hv' h
theorem Lx {pl:Sem Bool} {Q:Value×List Value->Shared->Prop} (X:K.In s.heap) (I:EY s.heap x dx C mA) (hg:PySem.W.plainGet K C name=true)
  (hf:PySem.W.findIn K (.ref C) name=some (some (.ref f))) (ht:PySem.W.isFn K (.ref f)=true) (hv:mA name=none) (h:Q (.ref f,[.ref x]) s) :
  wpAny (model prog w) A (getMethod (.ref x) name pl) Q E s:=by
 obtain⟨od,J,hl⟩:=I.look;exact PySem.W.method_fn X J (PySem.W.plainGet_of hg).1 (PySem.W.plainGet_of hg).2 hf (beq_iff_eq.mp ht) (by show(PySem.W.lookIn name od).map (·.isSome)=some false; rw[hl,hv]; rfl) h
theorem NQ {ns:List Str} {Q:Unit->Shared->Prop} (X:K.In s.heap) (I:EY s.heap x dx C mA)
  (hs:PySem.W.findIn K (.ref C) "__setattr__" = some (some (.builtin "object.__setattr__"))) (hp:PySem.W.plainOver K C=true) (ht:PySem.W.takerIn K C name=some none) (hh:PySem.W.hasDictIn K C=true)
  (hw:PySem.Within mA ns) (hsz:ns.length<=sizeLine)
  (h:∀h',EY h' x dx C (fun y=>if y=name then some v else mA y)->Heap.SameBut dx s.heap h'->Q () { s with heap:=h',toks:=s.toks+2 }) :
  wpAny (model prog w) A (setAttr (.ref x) name v) Q E s:=by
 obtain⟨od,J,hl⟩:=I.look;refine PySem.W.set_plain X J hs (PySem.W.osa_open (s:={ s with toks:=s.toks+1 }) (r:=none) X J hp ht fun b=>?_)
 obtain⟨cd,hc,hd'⟩:=PySem.W.any_some hh;have hx:s.heap.get? x=some ⟨.ref C,some dx,.plain,#[]⟩:=I.obj;refine aP (bW (aP (aP (wpAny_loadPart hx (aP (PySem.W.Looks.here (s:={ s with toks:=s.toks+1 }) (PySem.W.looks_clsIn X hc) ?_))))))
 rw[hd'];refine bW (a:=some dx) (aP (bW (aP ?_)));refine wpAny_nsSet1 (s:={ s with toks:=s.toks+1 }) I.ns fun h' hn2 hs2=>?_
 obtain⟨oD,esD,epD,hoD,hdD,hcD⟩:=hn2.count (PySem.Within.cons name v hw);refine aP (wpAny_lookBehind hoD (by rw[hdD]; exact pastItsLine_dict (kj hcD (by rw[ju]; omega))) ?_)
 exact bW (h _ ⟨(hs2.2 _ (Ne.symm I.ne)).trans I.obj,hn2,I.ne⟩ hs2)
theorem Lh {R:Result->Shared->Prop} {vs:List Value} {kw:List (Str×Value)} (X:K.In s.heap) (hm:PySem.W.makesIn K C=true)
  (hi:PySem.W.findIn K (.ref C) "__init__" = some (some (.ref f))) (hf:PySem.W.typeIn K (.ref f)=some (.type "function"))
  (h:codeAny (model prog w) (A.under (.builtin "type.__call__" ⟨.ref C::vs,kw⟩)) (.call (.ref f) ⟨.ref (s.heap.objs.size+1)::vs,kw⟩) (PySem.W.InitBack (s.heap.objs.size+1) R)
   { s with heap:=(s.heap.push PySem.W.emptyDict).push (PySem.W.instObj C s.heap.objs.size) }) :
  codeAny (model prog w) A (.call (.ref C) ⟨vs,kw⟩) R s:=by
 obtain⟨hh,g,d,t,os⟩:=s;exact PySem.W.make_core (PySem.W.makes_of X hm) (PySem.W.looks_findIn X hi) (fun self=>PySem.W.bind_fn X self hf) (.inl rfl) h
end
def gO (f:Str) (v:V):List (Str×V)->List (Str×V)
 | []=>[(f,v)]
 | (g,x)::r=>if g=f then(g,v)::r else(g,x)::gO f v r
theorem rD (f g:Str) (v:V):∀fs:List (Str×V),(gO f v fs).lookup g=if g=f then some v else fs.lookup g
 | []=>by
  show List.lookup g [(f,v)]=_;by_cases h:g=f
  ·have hb:(g==f)=true:=beq_iff_eq.mpr h;simp only[List.lookup,hb,a_ h]
  ·have hb:(g==f)=false:=beq_eq_false_iff_ne.mpr h;simp only[List.lookup,hb,aV h]
 | (k,x)::r=>by
  have ih:=rD f g v r;rw[show gO f v ((k,x)::r)=(if k=f then(k,v)::r else(k,x)::gO f v r) from rfl]
  by_cases hk:k=f
  ·rw[a_ hk];by_cases h:g=k
   ·have hb:(g==k)=true:=beq_iff_eq.mpr h;simp only[List.lookup,hb,a_ (h.trans hk)]
   ·have hb:(g==k)=false:=beq_eq_false_iff_ne.mpr h;simp only[List.lookup,hb,aV (fun e:g=f=>h (e.trans hk.symm))]
  ·rw[aV hk];by_cases h:g=k
   ·have hb:(g==k)=true:=beq_iff_eq.mpr h;simp only[List.lookup,hb,aV (fun e:g=f=>hk (h.symm.trans e))]
   ·have hb:(g==k)=false:=beq_eq_false_iff_ne.mpr h;simp only[List.lookup,hb];exact ih
theorem qO (f:Str) (v:V):∀fs:List (Str×V),f∈(gO f v fs).map (·.1)/\∀g,g∈fs.map (·.1)->g∈(gO f v fs).map (·.1)
 | []=>⟨by simp[gO],fun g h=>by simp at h⟩
 | (k,x)::r=>by
  obtain⟨i1,i2⟩:=qO f v r;rw[show gO f v ((k,x)::r)=(if k=f then(k,v)::r else(k,x)::gO f v r) from rfl]
  by_cases hk:k=f
  ·rw[a_ hk];subst hk;exact⟨by simp,fun g h=>by simpa using h⟩
  ·rw[aV hk];refine⟨?_,fun g h=>?_⟩
   ·rw[nU];exact n_ _ i1
   ·rw[nU] at h ⊢;rcases d_.mp h with e | e
    ·exact d_.mpr (.inl e)
    ·exact n_ _ (i2 g e)
theorem rE (f:Str) (v:V):∀fs:List (Str×V),(gO f v fs).length<=fs.length+1
 | []=>by simp[gO]
 | (k,x)::r=>by
  have ih:=rE f v r;rw[show gO f v ((k,x)::r)=(if k=f then(k,v)::r else(k,x)::gO f v r) from rfl]
  by_cases hk:k=f
  ·rw[a_ hk,ju,ju]; omega
  ·rw[aV hk,ju,ju]; omega
theorem m8.some_of {v:V} {o:Option Value} (r:m8 (some v) o):∃u,o=some u/\RelV v u:=by
 cases o with
 | none=>exact(show False from r).elim
 | some u=>exact⟨u,rfl,r⟩
theorem m8.none_of {o:Option Value} (r:m8 none o):o=none:=by
 cases o with
 | none=>rfl
 | some u=>exact(show False from r).elim
theorem I_ {v:V} {u:Value} (r:RelV v u):PySem.W.handedIn u=true:=by
 cases v with
 | non=>cases(show u=Value.none from r); rfl
 | bl b=>cases(show u=Value.bool b from r); rfl
 | int i=>obtain⟨t,e⟩:=(show ∃t,u=Value.int i t from r); cases e; rfl
 | str x=>obtain⟨t,e⟩:=(show ∃t,u=Value.str x t from r); cases e; rfl
 | Jm b=>obtain⟨t,e⟩:=(show ∃t,u=Value.bytes b t from r); cases e; rfl
 | flt b=>obtain⟨t,e⟩:=(show ∃t,u=Value.float b t from r); cases e; rfl
 | ref a=>cases(show u=Value.ref a from r); rfl
 | ty n=>cases(show u=Value.type n from r); rfl
section
variable {P:Program} {w:World} {H H':Hp} {h h':Heap} {a C dx:Addr} {fs fs':List (Str×V)}
theorem tG (hok:mq P w H h) (e:H a=some (.ins C dx fs)):∃mA,EY h a dx C mA/\(∀f,m8 (fs.lookup f) (mA f))/\PySem.Within mA (fs.map (·.1))/\fs.length<=1000/\H dx=some (.own a):=by
 obtain⟨d,z,ne,ob,mA,n,r,q⟩:=(show cN P w H h a (.ins C dx fs) from hok a _ e);exact⟨mA,⟨ob,n,ne⟩,r,q,z,d⟩
end
structure Cv (K:PySem.W.Frag) (C:Addr):Prop where
 pg:PySem.W.plainGet K C Str.empty=true
 hd:PySem.W.hasDictIn K C=true
 po:PySem.W.plainOver K C=true
 sa:PySem.W.findIn K (.ref C) "__setattr__" = some (some (.builtin "object.__setattr__"))
theorem Cv.get {K:PySem.W.Frag} {C:Addr} (c:Cv K C) (f:Str):PySem.W.plainGet K C f=true:=c.pg
def cO (K:PySem.W.Frag) (C:Addr) (f:Str):Prop:=PySem.W.findIn K (.ref C) f=some none
theorem cO.taker {K:PySem.W.Frag} {C:Addr} {f:Str} (n:cO K C f):PySem.W.takerIn K C f=some none:=by
 unfold PySem.W.takerIn;rw[show PySem.W.findIn K (.ref C) f=some none from n];rfl
structure Con (K:PySem.W.Frag) (C:Addr) (f:Str) (v:V) (u:Value):Prop where
 at_:PySem.W.findIn K (.ref C) f=some (some u)
 rel:RelV v u
 get:PySem.W.specialIn K u "__get__" = some none
 cp:PySem.W.copiedNames.contains f=false
structure Meth (K:PySem.W.Frag) (C:Addr) (m:Str) (f:Addr):Prop where
 at_:PySem.W.findIn K (.ref C) m=some (some (.ref f))
 fn:PySem.W.isFn K (.ref f)=true
 kp:PySem.W.keepIn K (.ref f)=true
section
variable {X:Cx} {pins:List (Addr×Obj)} {σ:St} {H:Hp} {s:Shared} {a C dx:Addr} {fs:List (Str×V)} {f:Str} {v:V} {A:Around} {E:Value->Shared->Prop}
theorem El {b:Bool} {Q:Value->Shared->Prop} (I:Inv X pins σ H s) (e:H a=some (.ins C dx fs)) (c:Cv X.K C) (n:cO X.K C f) (l:fs.lookup f=some v)
  (h:∀u s',Inv X pins σ H s'->RelV v u->Q u s'):wpAny (model X.prog X.w) A (getAttr (.ref a) f b) Q E s:=by
 obtain⟨mA,O,r,_,_,_⟩:=tG I.hok e;obtain⟨u,hu,ru⟩:=m8.some_of (v:=v) (o:=mA f) (by rw[<- l]; exact r f)
 exact get_map I.rY O (c.get f) c.hd n hu (I_ ru) (h u _ (I.tok _) ru)
theorem vd {m:Str} {g:Addr} {pl:Sem Bool} {Q:Value×List Value->Shared->Prop} (I:Inv X pins σ H s) (e:H a=some (.ins C dx fs)) (c:Cv X.K C) (k:Meth X.K C m g) (l:fs.lookup m=none)
  (h:Q (.ref g,[.ref a]) s):wpAny (model X.prog X.w) A (getMethod (.ref a) m pl) Q E s:=by
 obtain⟨mA,O,r,_,_,_⟩:=tG I.hok e;have hn:mA m=none:=m8.none_of (by rw[<- l]; exact r m)
 exact Lx I.rY O (c.get m) k.at_ k.fn hn h
theorem Dj {y:V} {u:Value} {Q:Unit->Shared->Prop} (I:Inv X pins σ H s) (e:H a=some (.ins C dx fs)) (c:Cv X.K C) (n:cO X.K C f) (hl:fs.length<1000) (ry:RelV y u)
  (h:∀s',Inv X pins σ (upd H a (.ins C dx (gO f y fs))) s'->Q () s'):wpAny (model X.prog X.w) A (setAttr (.ref a) f u) Q E s:=by
 obtain⟨mA,O,r,wi,_,ho⟩:=tG I.hok e;have hz:(fs.map (·.1)).length<=sizeLine:=by rw[cT,sizeLine_eq]; omega
 refine NQ I.rY O c.sa c.po n.taker c.hd wi hz fun h' O' sb=>h _ ?_;have hd:∃o,h'.get? dx=some o:=let ⟨o,_,_,e',_⟩:=O'.ns; ⟨o,e'⟩;refine I.write (x:=a) (e:=dx) (by rw[e]; exact True.intro) (.inr ho) (fun b q hb z=>(sb.2 b hb).trans z) hd ?_
 refine⟨by rw[aJ O.ne]; exact ho,?_,O.ne,O'.obj,_,O'.ns,fun g=>?_,fun g hg=>?_⟩
 ·have:=rE f y fs; omega
 ·show m8 ((gO f y fs).lookup g) (if g=f then some u else mA g)
  rw[rD];by_cases q:g=f
  ·rw[a_ q,a_ q]; exact ry
  ·rw[aV q,aV q]; exact r g
 ·by_cases q:g=f
  ·rw[q]; exact(qO f y fs).1
  ·refine(qO f y fs).2 g (wi g fun z=>hg ?_);show(if g=f then some u else mA g)=none
   rw[aV q]; exact z
theorem Inv.made (I:Inv X pins σ H s):Inv X pins σ (upd (upd H s.heap.objs.size (.own (s.heap.objs.size+1))) (s.heap.objs.size+1) (.ins C s.heap.objs.size []))
  { s with heap:=(s.heap.push PySem.W.emptyDict).push (PySem.W.instObj C s.heap.objs.size) }:=by
 have e1:(s.heap.push PySem.W.emptyDict).get? s.heap.objs.size=some PySem.W.emptyDict:=dN s.heap rfl
 have e2:((s.heap.push PySem.W.emptyDict).push (PySem.W.instObj C s.heap.objs.size)).get? (s.heap.objs.size+1)=some (PySem.W.instObj C s.heap.objs.size):=by
  have:=dN (s.heap.push PySem.W.emptyDict) (o:=PySem.W.instObj C s.heap.objs.size) rfl
  rwa [gY] at this
 have e3:(s.heap.push PySem.W.emptyDict).Ns s.heap.objs.size (fun _=>none):=⟨PySem.W.emptyDict,#[],_,e1,rfl,(fun e he=>absurd he (by simp)),fun _=>rfl⟩
 have I1:=I.laid (a:=s.heap.objs.size) (o:=.own (s.heap.objs.size+1)) (h':=s.heap.push PySem.W.emptyDict) (t':=s.toks) (fun b u q=>e_ _ q) (bG _) ⟨_,e1⟩;refine I1.laid (a:=s.heap.objs.size+1) (o:=.ins C s.heap.objs.size []) (t':=s.toks) (fun b u q=>e_ _ q) (Nat.le_of_eq (gY _ _)) ?_;have ne:s.heap.objs.size≠s.heap.objs.size+1:=dM (A_ _);refine⟨by rw[aJ ne,aA],iY _,ne,e2,fun _=>none,(Heap.Ns1.of_empty e3).at fun o q=>e_ _ q,fun _=>True.intro,fun y hy=>absurd rfl hy⟩
theorem Qm {prog:Program} {w:World} {env:Env} {e:Expr} {f:Str} {pos:Pos} {s:Shared} {Q:Value->Shared->Prop} (hb:attributeBase e f env (eval e env)=eval e env)
  (h:wpAny (model prog w) A (eval e env) (fun o s₁=>wpAny (model prog w) A (getAttr o f true) Q E s₁) E s):wpAny (model prog w) A (eval (.Attribute e f pos) env) Q E s:=
 Attribute_any_ h (by rw[arm_eval_Attribute,hb])
end
def RB (K:PySem.W.Frag) (ta:TE) (f:Str):TE:=fun σ H Q=>ta σ H fun x H1=>∃a C dx fs v,x=.ref a/\H1 a=some (.ins C dx fs)/\Cv K C/\cO K C f/\fs.lookup f=some v/\Q v H1
def RT (K:PySem.W.Frag) (ta tv:TE) (f:Str):TS:=fun D σ H=>tv σ H fun y H1=>ta σ H1 fun x H2=>∃a C dx fs,x=.ref a/\H2 a=some (.ins C dx fs)/\Cv K C/\cO K C f/\fs.length<1000 /\
 D.nx σ (upd H2 a (.ins C dx (gO f y fs)))
def X6 (X:Cx) (op:Operator) (rd:V->V->Hp->VK->Prop):Prop:=
 ∀(pins:List (Addr×Obj)) (s:Shared) (σ:St) (H:Hp) (x y:V) (u v:Value) (Q:VK),Inv X pins σ H s->RelV x u->RelV y v->rd x y H Q->wpAny (model X.prog X.w) X.A (inplaceOp op u v) (EP X pins σ Q) X.xe s
section
variable {X:Cx} {o e value:Expr} {f:Str} {pos pos' tpos:Pos} {ta tv:TE}
theorem Sh (he:PE X e ta) (hb:attributeBase e f X.env (eval e X.env)=eval e X.env):PE X (.Attribute e f pos) (RB X.K ta f):=by
 refine .mk ?_;intro pins s σ H Q I h;refine Qm hb (cz (he pins s σ H _ I h) fun u s1 qx=>?_);obtain⟨x,H1,I1,rx,a,C,dx,fs,v,ex,ea,c,n,l,q⟩:=qx;subst ex;obtain rfl:u=Value.ref a:=rx;exact El I1 ea c n l fun u' s2 I2 ru=>⟨v,H1,I2,ru,q⟩
theorem R4 (ha:PE X o ta) (hv:PE X value tv) (hs:swapsWith value (some (.Attribute o f pos')) pos.line X.env=pure false):PS X (.Assign [.Attribute o f pos'] value pos) (RT X.K ta tv f):=by
 refine .mk ?_;intro pins s σ H D I h;refine plainObj_wpAny_Assign_Attribute (cz (hv pins s σ H _ I h) fun u s1 ⟨y,H1,I1,ry,q⟩=>cz (ha pins s1 σ H1 _ I1 q) fun ov s2 ⟨x,H2,I2,rx,a,C,dx,fs,ex,ea,c,n,l,q2⟩=>?_) hs;subst ex;obtain rfl:ov=Value.ref a:=rx;exact Dj I2 ea c n l ry fun s3 I3=>⟨σ,_,I3,q2⟩
def aab:V->V->Hp->VK->Prop:=fun x y H Q=>∃i j,x=.int i/\y=.int j/\Q (.int (i+j)) H
theorem Tq:X6 X .Add aab:=by
 rintro pins s σ H x y u v Q I rx ry ⟨i,j,rfl,rfl,q⟩;obtain⟨t,rfl⟩:=(show ∃t,u=Value.int i t from rx);obtain⟨t',rfl⟩:=(show ∃t',v=Value.int j t' from ry);exact PyProof.Rows.iadd_int ⟨.int (i+j),H,I.tok _,⟨_,rfl⟩,q⟩
end
section
variable {X:Cx} {pins:List (Addr×Obj)} {σ:St} {H:Hp} {s:Shared} {A:Around} {E:Value->Shared->Prop} {Q:Value->Shared->Prop} {c:Value} {b:Bool}
inductive qY (K:PySem.W.Frag) (H:Hp):V->Value->Prop where
 | non:qY K H .non (.type "NoneType")
 | bl (x:Bool):qY K H (.bl x) (.type "bool")
 | int (i:Int):qY K H (.int i) (.type "int")
 | str (x:Str):qY K H (.str x) (.type "str")
 | flt (x:UInt64):qY K H (.flt x) (.type "float")
 | lst {a:Addr} {xs:List V} (e:H a=some (.lst xs)):qY K H (.ref a) (.type "list")
 | rG {a:Addr} {o:Obj} {xs:List V} (e:H a=some (.rG o (.lst xs))):qY K H (.ref a) (.type "list")
 | tup {a:Addr} {xs:List V} (e:H a=some (.tup xs)):qY K H (.ref a) (.type "tuple")
 | dK {a:Addr} {kvs:List (Key×V)} (e:H a=some (.dK kvs)):qY K H (.ref a) (.type "dict")
 | dT {a:Addr} {kvs:List (List Key×V)} (e:H a=some (.dT kvs)):qY K H (.ref a) (.type "dict")
 | ins {a C dx:Addr} {fs:List (Str×V)} (e:H a=some (.ins C dx fs)) (cl:Cv K C) (ha:PySem.W.findIn K (.ref C) "__class__" = some (some (.builtin "object.__class__")))
   (hn:PySem.W.specialIn K (.builtin "object.__class__") "__get__" = some (some (.builtin "getset_descriptor.__get__"))) (htk:PySem.W.takesIn K (.builtin "object.__class__")=some true)
   (hm:PySem.W.mroIn K C (.type "object")=some true):qY K H (.ref a) (.ref C)
theorem Iw {x:V} {u t:Value} (I:Inv X pins σ H s) (rx:RelV x u) (ty:qY X.K H x t) (e:PySem.W.kitOne X.K t c=some b) (h:∀tk,Q (.bool b) { s with toks:=tk }) :
  wpAny (model X.prog X.w) A (call (.builtin "isinstance") [u,c]) Q E s:=by
 cases ty with
 | non=>cases(show u=Value.none from rx); exact PySem.W.kia_one PySem.W.kitx_none I.rY True.intro e (fun z=>nomatch z) h
 | bl y=>cases(show u=Value.bool y from rx); exact PySem.W.kia_one PySem.W.kitx_bool I.rY True.intro e (fun z=>nomatch z) h
 | int i=>obtain⟨t,q⟩:=(show ∃t,u=Value.int i t from rx); cases q; exact PySem.W.kia_one PySem.W.kitx_int I.rY True.intro e (fun z=>nomatch z) h
 | str y=>obtain⟨t,q⟩:=(show ∃t,u=Value.str y t from rx); cases q; exact PySem.W.kia_one PySem.W.kitx_str I.rY True.intro e (fun z=>nomatch z) h
 | flt y=>obtain⟨t,q⟩:=(show ∃t,u=Value.float y t from rx); cases q; exact PySem.W.kia_one PySem.W.kitx_float I.rY True.intro e (fun z=>nomatch z) h
 | @lst a xs ea=>
  cases(show u=Value.ref a from rx);obtain⟨_,_,n,_,h1⟩:=(show cN X.prog X.w H s.heap a (.lst xs) from I.hok a _ ea);exact PySem.W.kia_one PySem.W.kitx_list I.rY ⟨_,h1,rfl⟩ e (fun z=>nomatch z) h
 | @rG a ob xs ea=>
  cases(show u=Value.ref a from rx);obtain⟨_,_,_,n,_,h1⟩:=(show cN X.prog X.w H s.heap a (.rG ob (.lst xs)) from I.hok a _ ea);exact PySem.W.kia_one PySem.W.kitx_list I.rY ⟨_,h1,rfl⟩ e (fun z=>nomatch z) h
 | @tup a xs ea=>
  cases(show u=Value.ref a from rx);obtain⟨_,_,_,p⟩:=(show cN X.prog X.w H s.heap a (.tup xs) from I.hok a _ ea);obtain⟨o,h1,h2,_⟩:=p;exact PySem.W.kia_one PySem.W.kitx_tuple I.rY ⟨o,h1,h2⟩ e (fun z=>nomatch z) h
 | @dK a kvs ea=>
  cases(show u=Value.ref a from rx);obtain⟨_,_,vs,_,p⟩:=(show cN X.prog X.w H s.heap a (.dK kvs) from I.hok a _ ea);obtain⟨o,es,ep,h1,h2,_⟩:=p;exact PySem.W.kia_one PySem.W.kitx_dict I.rY ⟨o,h1,h2.1⟩ e (fun z=>nomatch z) h
 | @dT a kvs ea=>
  cases(show u=Value.ref a from rx);obtain⟨_,_,xs,_,o,es,ep,h1,h2,_⟩:=(show cN X.prog X.w H s.heap a (.dT kvs) from I.hok a _ ea);exact PySem.W.kia_one PySem.W.kitx_dict I.rY ⟨o,h1,h2.1⟩ e (fun z=>nomatch z) h
 | @ins a C dx fs ea cl ha hn htk hm=>
  cases(show u=Value.ref a from rx);obtain⟨mA,O,_⟩:=tG I.hok ea;obtain⟨od,J,_⟩:=O.look;exact PySem.W.kia_one (PySem.W.kitx_own (cl.get _) cl.hd ha hn htk hm) I.rY J e (fun z=>nomatch z) h
end
structure dZ (k:Nat) (A:Around):Prop where
 hd:A.handled=none
 dp:A.depth+3*k+5<recursionLimit
 un:A.units+16*k+200<cLine
 gd:A.guards=some []
theorem dZ.mono {j k:Nat} {A:Around} (r:dZ k A) (h:j<=k):dZ j A:=⟨r.hd,by have:=r.dp; omega,by have:=r.un; omega,r.gd⟩
theorem dZ.deeper {k:Nat} {A:Around} (r:dZ (k+1) A) (env:Env):dZ k (A.deeper env):=
 ⟨r.hd,by have:=r.dp; show A.depth+1+3*k+5<_; omega,by have:=r.un; show A.units+3+16*k+200<_; omega,by first | exact r.gd | (simpa[Around.deeper,Around.under,Code.guards,Code.isGuard,guardIds,pushGuards] using r.gd)⟩
theorem Ed {A:Around} {C:Addr} {us:List Value} {kw:List (Str×Value)}:(A.under (.builtin "type.__call__" ⟨.ref C::us,kw⟩)).depth=A.depth+1:=by
 first | rfl | simp[Around.under,Code.weight,Code.isCreation,Code.isGuard,Code.isCaller,Code.frames,Code.isFrame,guardIds]
theorem Ec {A:Around} {C:Addr} {us:List Value} {kw:List (Str×Value)}:(A.under (.builtin "type.__call__" ⟨.ref C::us,kw⟩)).units=A.units+1:=by
 first | rfl | simp[Around.under,Code.cUnits,Code.frames,Code.isFrame]
theorem dZ.make {k:Nat} {A:Around} (r:dZ (k+1) A) (C:Addr) (us:List Value) (kw:List (Str×Value)):dZ k (A.under (.builtin "type.__call__" ⟨.ref C::us,kw⟩)):=
 ⟨r.hd,by have:=r.dp; rw[Ed]; omega,by have:=r.un; rw[Ec]; omega,by first | exact r.gd | (simpa[Around.deeper,Around.under,Code.guards,Code.isGuard,guardIds,pushGuards] using r.gd)⟩
theorem dZ.depth {k:Nat} {A:Around} (r:dZ k A):A.depth<recursionLimit:=by have:=r.dp; omega
theorem dZ.units {k:Nat} {A:Around} (r:dZ k A):A.units+64<cLine:=by have:=r.un; omega
def vK:TA:=fun _ H Q=>Q [] H
def oY (ta:TE) (tr:TA):TA:=fun σ H Q=>ta σ H fun x H1=>tr σ H1 fun xs H2=>Q (x::xs) H2
section
variable {X:Cx} {e:Expr} {es:List Expr} {te:TE} {t:TA} {pos:Pos}
theorem aj:PA X [] vK:=.mk <| fun _ _ _ _ H Q I h=>Calls.spliced_nil ⟨[],H,I,.nil,h⟩
theorem O4 (ha:PE X e te) (hr:PA X es t) (hs:starEach (e::es) X.env=(false,eval e X.env)::starEach es X.env:=by rfl):PA X (e::es) (oY te t):=by
 refine .mk ?_;intro pos pins s σ H Q I h;rw[hs];show wpAny _ _ (spliced ((false,eval e X.env)::backTo pos (starEach es X.env))) _ _ s;refine Calls.spliced_cons (cz (ha pins s σ H _ I h) fun u s1 qx=>?_);obtain⟨x,H1,I1,r1,q1⟩:=qx;exact cz (hr pos pins s1 σ H1 _ I1 q1) fun us s2 ⟨xs,H2,I2,r2,q2⟩=>⟨x::xs,H2,I2,.cons r1 r2,q2⟩
def Rv (t:TA):TE:=fun σ H Q=>t σ H fun xs H1=>xs.length<=sizeLine/\∀p,H1 p=none->Q (.ref p) (upd H1 p (.tup xs))
def V1 (t:TA):TE:=fun σ H Q=>t σ H fun xs H1=>xs.length<=sizeLine/\∀p,H1 p=none->Q (.ref p) (upd H1 p (.lst xs))
theorem Kz {x1} (h:PA X es t):PE X (.Tuple es x1 pos) (Rv t):=by
 refine .mk ?_;intro pins s σ H Q I hq;refine wpAny_Tuple_spliced (cz (h pos pins s σ H _ I hq) fun us s1 ⟨xs,H1,I1,r,z,q⟩=>⟨by rw[<- r.length]; exact z,?_⟩)
 have hf:H1 s1.heap.objs.size=none:=I1.hok.fresh (bG _);refine⟨.ref s1.heap.objs.size,upd H1 s1.heap.objs.size (.tup xs),I1.laid (t':=s1.toks) (fun b u e=>e_ _ e) (bG _) ?_,rfl,q _ hf⟩;exact⟨z,us,r,⟨_,dN _ rfl,rfl,_,rfl⟩⟩
theorem KD (h:PA X es t):PE X (.List es pos) (V1 t):=by
 refine .mk ?_;intro pins s σ H Q I hq;refine wpAny_List_spliced (cz (h pos pins s σ H _ I hq) fun us s1 ⟨xs,H1,I1,r,z,q⟩=>⟨by rw[<- r.length]; exact z,?_⟩)
 have hf:H1 s1.heap.objs.size=none:=I1.hok.fresh (bG _);refine⟨.ref s1.heap.objs.size,upd H1 s1.heap.objs.size (.lst xs),I1.laid (t':=s1.toks) (fun b u e=>e_ _ e) (bG _) ?_,rfl,q _ hf⟩;exact⟨z,us,0,r,dN _ rfl⟩
end
abbrev Sp:=List V->Hp->VK->XK->Prop
abbrev G8:=List Env->Hp->Shared->XK->Value->Shared->Prop
structure Ff (P:Program) (w:World) (K:PySem.W.Frag) (mg:Str->Option Value) (base:Heap) (A:Around) (outer:List Env) (s:Shared) (H:Hp):Prop where
 frames:A.frames=some outer
 mod:Mod K mg base
 bs:∀b o,base.get? b=some o->s.heap.get? b=some o/\H b=none
 My:base.objs.size<=s.heap.objs.size
 sr:s.heap.FunFrames base outer
 TQ:∀b∈frs outer,H b=none
 hok:mq P w H s.heap
 bare:AllBare s.gens
def CE (outer:List Env) (P:Program) (w:World) (H:Hp) (s:Shared) (Q:VK) (u:Value) (s':Shared):Prop:=
 ∃v H',s'.os=s.os/\AllBare s'.gens/\Un (frs outer) [] H H' s.heap s'.heap/\mq P w H' s'.heap/\RelV v u/\Q v H'
def CR (CX:G8) (outer:List Env) (P:Program) (w:World) (H:Hp) (s:Shared) (Q:VK) (E:XK) (r:Result) (s':Shared):Prop:=
 match r with
 | .ok (.ret u)=>CE outer P w H s Q u s'
 | .ok _=>False
 | .error e=>CX outer H s E e s'
structure bD (P:Program) (w:World) (K:PySem.W.Frag) (mg:Str->Option Value) (base:Heap) (CX:G8) (k:Nat) (f:Addr) (fd:FuncData) (ps:List Str) (sp:Sp):Prop where
 len:∀vs H Q E,sp vs H Q E->vs.length=ps.length
 run:∀(A:Around) (outer:List Env) (s:Shared) (H:Hp) (args:Args) (us:List Value) (vs:List V) (Q:VK) (E:XK),dZ k A->Ff P w K mg base A outer s H->BindsTo s fd args (ps.zip us)->Vals vs us->sp vs H Q E ->
  codeAny (model P w) A (.call (.ref f) args) (CR CX outer P w H s Q E) s
theorem bD.mono {P:Program} {w:World} {K:PySem.W.Frag} {mg:Str->Option Value} {base:Heap} {CX:G8} {j k:Nat} {f:Addr} {fd:FuncData} {ps:List Str} {sp:Sp} (F:bD P w K mg base CX j f fd ps sp) (h:j<=k) :
  bD P w K mg base CX k f fd ps sp:=⟨F.len,fun A outer s H args us vs Q E hr=>F.run A outer s H args us vs Q E (hr.mono h)⟩
theorem Ff.make {P:Program} {w:World} {K:PySem.W.Frag} {mg:Str->Option Value} {base:Heap} {A:Around} {outer:List Env} {s:Shared} {H:Hp} (e:Ff P w K mg base A outer s H) (C:Addr) (us:List Value) (kw:List (Str×Value)) :
  Ff P w K mg base (A.under (.builtin "type.__call__" ⟨.ref C::us,kw⟩)) outer s H:=⟨by first | exact e.frames | (simpa[Around.under,Code.envs,Code.isFrame,pushEnvs] using e.frames),e.mod,e.bs,e.My,e.sr,e.TQ,e.hok,e.bare⟩
section
variable {X:Cx} {pins:List (Addr×Obj)} {σ:St} {H:Hp} {s s':Shared}
theorem Inv.env0 (I:Inv X pins σ H s):Ff X.prog X.w X.K X.mg X.base X.A X.stack s H:=
 ⟨I.ok.frames,I.ok.mod,I.bs,kj I.ok.My I.sz,I.stack,I.Fx,I.hok,I.bare⟩
theorem Inv.after {Q:VK} {u:Value} (I:Inv X pins σ H s) (h:CE X.stack X.prog X.w H s Q u s'):EP X pins σ Q u s':=by
 obtain⟨v,H',os,bare,un,hok,r,q⟩:=h;obtain⟨hh,g,d,t,os'⟩:=s';obtain rfl:os'=s.os:=os;exact⟨v,H',I.call (h':=hh) (g':=g) (d':=d) (t':=t) (ch:=[]) un hok bare (fun b z=>absurd z (by simp)),r,q⟩
end
def kI (sp:Sp) (su:List V) (E:XK) (t:TA):TE:=fun σ H Q=>t σ H fun vs H1=>sp (vs++su) H1 Q E
def Ah (C:Addr) (m:Str) (sp:Sp) (su:List V) (E:XK) (ta:TE) (t:TA):TE:=fun σ H Q=>ta σ H fun x H1=>∃a dx fs,x=.ref a/\H1 a=some (.ins C dx fs)/\fs.lookup m=none /\
 t σ H1 fun vs H2=>sp (x::(vs++su)) H2 Q E
def JS (C:Addr) (sp:Sp) (su:List V) (E:XK) (t:TA):TE:=fun σ H Q=>t σ H fun vs H1=>∀x dx,H1 x=none->H1 dx=none->dx≠x ->
 sp (.ref x::(vs++su)) (upd (upd H1 dx (.own x)) x (.ins C dx [])) (fun v H2=>v=.non/\Q (.ref x) H2) E
def Binds (K:PySem.W.Frag) (fd:FuncData) (ps:List Str) (ds:List Value):Prop:=
 ∀(s:Shared) (us:List Value),K.In s.heap->(us++ds).length=ps.length->BindsTo s fd ⟨us,[]⟩ (ps.zip (us++ds))
theorem Binds.all {K:PySem.W.Frag} {fd:FuncData} {ps:List Str} (h:∀us:List Value,us.length=ps.length->bindArgs fd ⟨us,[]⟩=pure (ps.zip us)):Binds K fd ps []:=fun s us _ hl=>by
 rw[Ax] at hl ⊢;exact .of_eq (h us hl)
def Passes (CX:G8) (X:Cx) (E:XK):Prop:=∀(pins:List (Addr×Obj)) (σ:St) (H:Hp) (s:Shared) (e:Value) (s':Shared),Inv X pins σ H s->CX X.stack H s E e s'->X.xe e s'
section
variable {X:Cx} {CX:G8} {k:Nat} {f C:Addr} {fd:FuncData} {ps:List Str} {sp:Sp} {su:List V} {ds:List Value} {E:XK} {x m:Str} {p pos apos:Pos} {e o:Expr} {es:List Expr} {ta:TE} {t:TA}
theorem Dn {pins:List (Addr×Obj)} {σ:St} {H:Hp} {s:Shared} {Q:VK} {us:List Value} {vs:List V} (F:bD X.prog X.w X.K X.mg X.base CX k f fd ps sp) (hr:dZ k X.A) (hb:Binds X.K fd ps ds) (hd:Vals su ds) (hx:Passes CX X E)
  (I:Inv X pins σ H s) (r:Vals vs us) (h:sp (vs++su) H Q E):wpAny (model X.prog X.w) X.A (call (.ref f) us) (EP X pins σ Q) X.xe s:=by
 have r2:Vals (vs++su) (us++ds):=r.append hd;have hl:(us++ds).length=ps.length:=by rw[<- r2.length]; exact F.len _ _ _ _ h
 refine wpAny_call (codeAny_mono (F.run X.A X.stack s H ⟨us,[]⟩ (us++ds) (vs++su) Q E hr I.env0 (hb s us I.rY hl) r2 h) fun r s' hq=>?_);cases r with
 | error e=>exact hx pins σ H s e s' I hq
 | ok fl=>
  cases fl with
  | ret u=>exact I.after hq
  | next=>exact False.elim hq
  | brk=>exact False.elim hq
  | cont=>exact False.elim hq
theorem yI (F:bD X.prog X.w X.K X.mg X.base CX k f fd ps sp) (hr:dZ k X.A) (hg:Gl X x) (hm:X.mg x=some (.ref f)) (hk:PySem.W.keepIn X.K (.ref f)=true) (hb:Binds X.K fd ps ds) (hd:Vals su ds) (hx:Passes CX X E)
  (ha:PA X (e::es) t) (hdb:(x==("__debug__" : Str))=false:=by decide) (he:starEach (e::es) X.env=(false,eval e X.env)::starEach es X.env:=by rfl) (hpl:(backTo pos (starEach es X.env)).any (·.1)=false:=by rfl) :
  PE X (.Call (.Name x p) (e::es) [] pos) (kI sp su E t):=by
 refine .mk ?_;intro pins s σ H Q I h;refine vR (zb I hg hm ?_ hdb);refine PySem.W.callWith_K (h₀:=X.base) I.ok.mod.Te hk (cz (ha pos pins s σ H _ I h) fun us s1 ⟨vs,H1,I1,r,q⟩=>⟨I1.rY,?_⟩) he hpl;exact Dn F hr hb hd hx I1 r q
theorem OJ {pl:Sem Bool} (he:PE X o ta) (c:Cv X.K C) (hm:Meth X.K C m f) (F:bD X.prog X.w X.K X.mg X.base CX k f fd ps sp) (hr:dZ k X.A) (hb:Binds X.K fd ps ds) (hd:Vals su ds) (hx:Passes CX X E) (ha:PA X (e::es) t)
  (hst:starEach (e::es) X.env=(false,eval e X.env)::starEach es X.env:=by rfl) (hpl:(backTo pos (starEach es X.env)).any (·.1)=false:=by rfl)
  (ht:eval (.Call (.Attribute o m apos) (e::es) [] pos) X.env=(do
   let ov <- eval o X.env
   standAt apos.atName
   let (f,first) <- holding [ov] (getMethod ov m pl)
   callWith pos f first (backTo pos (starEach (e::es) X.env)) (backToKw pos (keywordEach [] X.env))):=by rfl) :
  PE X (.Call (.Attribute o m apos) (e::es) [] pos) (Ah C m sp su E ta t):=by
 refine .mk ?_;intro pins s σ H Q I h;refine PySem.W.methodCall_KW (pl:=pl) (cz (he pins s σ H _ I h) fun u s1 ⟨x,H1,I1,rx,a,dx,fs,ex,ea,l,q⟩=>?_) ht;subst ex;obtain rfl:u=Value.ref a:=rx;refine vd I1 ea c hm l ?_;refine PySem.W.callWith_K (first:=[.ref a]) (h₀:=X.base) I.ok.mod.Te hm.kp (cz (ha pos pins s1 σ H1 _ I1 q) fun us s2 ⟨vs,H2,I2,r,q2⟩=>⟨I2.rY,?_⟩) hst hpl
 exact Dn (us:=.ref a::us) (vs:=.ref a::vs) F hr hb hd hx I2 (.cons rfl r) q2
theorem KC {pl:Sem Bool} (he:PE X o ta) (c:Cv X.K C) (hm:Meth X.K C m f) (F:bD X.prog X.w X.K X.mg X.base CX k f fd ps sp) (hr:dZ k X.A) (hb:Binds X.K fd ps ds) (hd:Vals su ds) (hx:Passes CX X E)
  (ht:eval (.Call (.Attribute o m apos) [] [] pos) X.env=(do
   let ov <- eval o X.env
   standAt apos.atName
   let (f,first) <- holding [ov] (getMethod ov m pl)
   callWith pos f first (backTo pos (starEach [] X.env)) (backToKw pos (keywordEach [] X.env))):=by rfl) :
  PE X (.Call (.Attribute o m apos) [] [] pos) (Ah C m sp su E ta vK):=by
 refine .mk ?_;intro pins s σ H Q I h;refine PySem.W.methodCall_KW (pl:=pl) (cz (he pins s σ H _ I h) fun u s1 ⟨x,H1,I1,rx,a,dx,fs,ex,ea,l,q⟩=>?_) ht;subst ex;obtain rfl:u=Value.ref a:=rx;refine vd I1 ea c hm l ?_;exact PySem.W.callWith_K0 (first:=[.ref a]) I1.rY hm.kp (Dn (us:=[.ref a]) (vs:=[.ref a]) F hr hb hd hx I1 (.cons rfl .nil) q)
structure Mk (K:PySem.W.Frag) (C f:Addr):Prop where
 makes:PySem.W.makesIn K C=true
 init:PySem.W.findIn K (.ref C) "__init__" = some (some (.ref f))
 fn:PySem.W.isFn K (.ref f)=true
 kp:PySem.W.keepIn K (.ref C)=true
theorem Kc {pins:List (Addr×Obj)} {σ:St} {H:Hp} {s:Shared} {Q:VK} {us:List Value} {vs:List V} (M:Mk X.K C f) (F:bD X.prog X.w X.K X.mg X.base CX k f fd ps sp) (hr:dZ (k+1) X.A) (hb:Binds X.K fd ps ds) (hd:Vals su ds)
  (hx:Passes CX X E) (I:Inv X pins σ H s) (r:Vals vs us)
  (h:∀x dx,H x=none->H dx=none->dx≠x->sp (.ref x::(vs++su)) (upd (upd H dx (.own x)) x (.ins C dx [])) (fun v H2=>v=.non/\Q (.ref x) H2) E) :
  wpAny (model X.prog X.w) X.A (call (.ref C) us) (EP X pins σ Q) X.xe s:=by
 have hq:=h (s.heap.objs.size+1) s.heap.objs.size (I.hok.fresh (wX _)) (I.hok.fresh (bG _)) (dM (A_ _));have I2:=Inv.made (C:=C) I;have r2:Vals (V.ref (s.heap.objs.size+1)::(vs++su)) (Value.ref (s.heap.objs.size+1)::(us++ds)):=.cons rfl (r.append hd)
 have hl:(Value.ref (s.heap.objs.size+1)::us++ds).length=ps.length:=by
  have e:=r2.length;rw[F.len _ _ _ _ hq] at e;exact e.symm
 refine wpAny_call (Lh (f:=f) I.rY M.makes M.init (beq_iff_eq.mp M.fn) (codeAny_mono (F.run _ X.stack _ _ ⟨Value.ref (s.heap.objs.size+1)::us,[]⟩ (Value.ref (s.heap.objs.size+1)::(us++ds)) _ _ E (hr.make C us [])
  (I2.env0.make C us []) (hb _ (Value.ref (s.heap.objs.size+1)::us) I2.rY hl) r2 hq) fun r s' hq'=>?_))
 cases r with
 | error e=>exact hx pins σ _ _ e s' I2 hq'
 | ok fl=>
  cases fl with
  | ret u=>
   obtain⟨v,H',I3,rv,ev,q3⟩:=I2.after hq';subst ev;exact⟨rv,⟨V.ref (s.heap.objs.size+1),H',I3,rfl,q3⟩⟩
  | next=>exact False.elim hq'
  | brk=>exact False.elim hq'
  | cont=>exact False.elim hq'
theorem O2 (M:Mk X.K C f) (F:bD X.prog X.w X.K X.mg X.base CX k f fd ps sp) (hr:dZ (k+1) X.A) (hg:Gl X x) (hm:X.mg x=some (.ref C)) (hb:Binds X.K fd ps ds) (hd:Vals su ds) (hx:Passes CX X E)
  (ha:PA X (e::es) t) (hdb:(x==("__debug__" : Str))=false:=by decide) (he:starEach (e::es) X.env=(false,eval e X.env)::starEach es X.env:=by rfl) (hpl:(backTo pos (starEach es X.env)).any (·.1)=false:=by rfl) :
  PE X (.Call (.Name x p) (e::es) [] pos) (JS C sp su E t):=by
 refine .mk ?_;intro pins s σ H Q I h;refine vR (zb I hg hm ?_ hdb);refine PySem.W.callWith_K (h₀:=X.base) I.ok.mod.Te M.kp (cz (ha pos pins s σ H _ I h) fun us s1 ⟨vs,H1,I1,r,q⟩=>⟨I1.rY,?_⟩) he hpl;exact Kc M F hr hb hd hx I1 r q
end
def PK (X:Cx) (kws:List Keyword) (t:TA):Prop:=
 ∀(pos:Pos) (pins:List (Addr×Obj)) (s:Shared) (σ:St) (H:Hp) (Q:List V->Hp->Prop),Inv X pins σ H s->t σ H Q->wpAny (model X.prog X.w) X.A (evalAll ((backToKw pos (keywordEach kws X.env)).map (·.2))) (AP X pins σ Q) X.xe s
section
variable {X:Cx} {CX:G8} {k:Nat} {f C:Addr} {fd:FuncData} {ps ks:List Str} {sp:Sp} {E:XK} {x m:Str} {p pos apos Pk:Pos} {e o:Expr} {es:List Expr} {kws:List Keyword} {te ta:TE} {t tk:TA} {nm:Option Str}
theorem R5:PK X [] vK:=fun _ _ _ _ H Q I h=>wpAny_evalAll_nil ⟨[],H,I,.nil,h⟩
theorem Ou (ha:PE X e te) (hr:PK X kws t):PK X (⟨nm,e,Pk⟩::kws) (oY te t):=by
 intro pos pins s σ H Q I h;show wpAny _ _ (evalAll ((do let v <- eval e X.env; standAt pos; pure v)::(backToKw pos (keywordEach kws X.env)).map (·.2))) _ _ s
 refine wpAny_evalAll_cons (aP (cz (ha pins s σ H _ I h) fun u s1 ⟨x,H1,I1,r1,q1⟩=>aP (yq (bW ?_))));exact cz (hr pos pins s1 σ H1 _ I1 q1) fun us s2 ⟨xs,H2,I2,r2,q2⟩=>⟨x::xs,H2,I2,.cons r1 r2,q2⟩
structure abk (K:PySem.W.Frag) (fd:FuncData) (ps ks:List Str) (g:List Value->List Value->List Value) (gV:List V->List V->List V):Prop where
 to:∀(s:Shared) (us ws:List Value),K.In s.heap->(g us ws).length=ps.length->BindsTo s fd ⟨us,ks.zip ws⟩ (ps.zip (g us ws))
 rel:∀{vs:List V} {us:List Value} {zs:List V} {ws:List Value},Vals vs us->Vals zs ws->Vals (gV vs zs) (g us ws)
variable {g:List Value->List Value->List Value} {gV:List V->List V->List V}
end
structure aR (N P:List Str) (sc:Scope):Prop where
 kind:sc.kind=.function
 co:sc.isCoroutine=false
 gen:sc.isGenerator=false
 nd:N.Nodup
 pre:N.take P.length=P
 par:∀x∈P,sc.names.lookup x=some .local\/sc.names.lookup x=some .cell
 SM:∀y∈sc.names,y.2≠.free
theorem xQ {kindOf:Str->Option NameKind} {x:Str}:∀{binds:List (Str×Value)} {m:Str->Option Value},(∀v,(x,v)∉binds)->bindL kindOf binds m x=m x
 | [],_,_=>rfl
 | (n,v)::r,m,h=>by
  unfold bindL;rw[xQ fun w hw=>h w (n_ _ hw)];split
  ·have:x≠n:=by rintro rfl; exact h v nZ
   simp[this]
  ·rfl
theorem xT {kindOf:Str->Option NameKind} {x:Str}:∀{binds:List (Str×Value)} {m:Str->Option Value},(∀v,(x,v)∉binds)->bindC kindOf binds m x=m x
 | [],_,_=>rfl
 | (n,v)::r,m,h=>by
  unfold bindC;rw[xT fun w hw=>h w (n_ _ hw)];split
  ·rfl
  ·have:x≠n:=by rintro rfl; exact h v nZ
   simp[this]
theorem xR {kindOf:Str->Option NameKind} {x:Str} {v:Value}:∀{P:List Str} {vs:List Value} {i:Nat} {m:Str->Option Value},P.Nodup->P[i]?=some x->vs[i]?=some v->kindOf x=some .local ->
  bindL kindOf (P.zip vs) m x=some v
 | [],_,_,_,_,h,_,_=>by simp at h
 | _::_,[],_,_,_,_,h,_=>by simp at h
 | p::P,w::vs,0,m,nd,h1,h2,hk=>by
  simp at h1 h2; subst h1; subst h2;show bindL kindOf ((p,w)::P.zip vs) m p=_;unfold bindL;rw[xQ fun v hv=>(jL.mp nd).1 (Bj hv).1,a_ hk];simp
 | p::P,w::vs,i+1,m,nd,h1,h2,hk=>by
  show bindL kindOf ((p,w)::P.zip vs) m x=_;unfold bindL;exact xR (i:=i) (jL.mp nd).2 (by simpa using h1) (by simpa using h2) hk
theorem xU {kindOf:Str->Option NameKind} {x:Str} {v:Value}:∀{P:List Str} {vs:List Value} {i:Nat} {m:Str->Option Value},P.Nodup->P[i]?=some x->vs[i]?=some v->kindOf x≠some .local ->
  bindC kindOf (P.zip vs) m x=some v
 | [],_,_,_,_,h,_,_=>by simp at h
 | _::_,[],_,_,_,_,h,_=>by simp at h
 | p::P,w::vs,0,m,nd,h1,h2,hk=>by
  simp at h1 h2; subst h1; subst h2;show bindC kindOf ((p,w)::P.zip vs) m p=_;unfold bindC;rw[xT fun v hv=>(jL.mp nd).1 (Bj hv).1,aV hk];simp
 | p::P,w::vs,i+1,m,nd,h1,h2,hk=>by
  show bindC kindOf ((p,w)::P.zip vs) m x=_;unfold bindC;exact xU (i:=i) (jL.mp nd).2 (by simpa using h1) (by simpa using h2) hk
def start (N:List Str) (vs:List V):St:=vs.map some++List.replicate (N.length-vs.length) none
def vo (CX:G8) (P:Program) (w:World) (K:PySem.W.Frag) (mg:Str->Option Value) (base:Heap) (N:List Str) (qual:Str) (scope:Scope) (f:Addr) (cd:Value) (A:Around) (outer:List Env) (s:Shared) (H:Hp) (E:XK):Cx where
 prog:=P
 w:=w
 K:=K
 mg:=mg
 base:=base
 A:=A.deeper (envOfC qual scope s.heap.objs.size f cd)
 N:=N
 s₀:=s
 H₀:=H
 env:=envOfC qual scope s.heap.objs.size f cd
 outer:=outer
 stack:=envOfC qual scope s.heap.objs.size f cd::outer
 ex:=[]
 calm:=true
 fn:=fun _=>true
 pn:=[]
 xe:=fun e s'=>wpAny (model P w) (A.deeper (envOfC qual scope s.heap.objs.size f cd)) (leaving (envOfC qual scope s.heap.objs.size f cd) e) (fun _ s''=>CX outer H s E e s'') (fun e' s''=>CX outer H s E e' s'') s'
theorem BX {sc:Scope} {n:Nat} {x:Str} (h:sc.names.lookup x=some .cell):∃c,(cellsFrom n sc.names []).lookup x=some c:=by
 have q:=PySem.W.cellsFrom_some sc.names n [] (.inl h);exact Kp.mp q
theorem xm {CX:G8} {P:Program} {w:World} {K:PySem.W.Frag} {mg:Str->Option Value} {base:Heap} {N ps:List Str} {qual:Str} {scope:Scope} {f:Addr} {cd:Value} {A:Around} {outer:List Env} {s s1:Shared} {H:Hp} {E:XK} {us:List Value} {vs:List V}
  (S:aR N ps scope) (hd:A.handled=none) (e0:Ff P w K mg base A outer s H) (hl:vs.length=ps.length) (r:Vals vs us)
  (x:InCallC s s.heap.objs.size (bindL (envOfC qual scope s.heap.objs.size f cd).kindOf (ps.zip us) fun _=>none) (cellsFrom (s.heap.objs.size+1) scope.names []) (bindC (envOfC qual scope s.heap.objs.size f cd).kindOf (ps.zip us) fun _=>none) s1) :
  Inv (vo CX P w K mg base N qual scope f cd A outer s H E) [] (start N vs) H s1:=by
 have hpl:ps.length<=N.length:=by have:=nR List.length S.pre; rw[lH] at this; omega
 obtain⟨h1,tk,rfl,hk⟩:=x.done;have WW:∀b:Addr,b∉(vo CX P w K mg base N qual scope f cd A outer s H E).ex:=fun b z=>absurd (show b∈([]:List Addr) from z) (by simp)
 refine⟨⟨e0.mod,S.kind,rfl,rfl,bG _,fun y z c h1 h2=>?_,fun y hy=>?_,fun y c _ h=>?_,fun _=>hd,Around.frames_deeper e0.frames,.inr ⟨rfl,rfl⟩,fun b z=>absurd z (WW b),e0.bs,e0.My,fun b _ _=>WW b,fun b z=>absurd z (WW b),e0.sr,e0.TQ⟩,
  rfl,e0.bare,Un.kept hk,⟨_,x.toInCall.ns,fun i y v h1 h2 h3=>?_⟩,fun y c h=>⟨_,x.cell y c h⟩,e0.hok.fresh (bG _),fun y c h=>?_,fun p hp=>absurd (show p∈([]:List (Addr×Obj)) from hp) (by simp),e0.hok.kept hk,?_⟩
 ·exact name_of_addr x.apart (PySem.mem_of_lookup h1) (PySem.mem_of_lookup h2)
 ·have hy:scope.names.lookup y=some .cell\/scope.names.lookup y=some .free:=hy;rcases hy with hy | hy
  ·exact BX hy
  ·exact absurd rfl (S.SM _ (PySem.mem_of_lookup hy))
 ·exact pH (x.above y c (PySem.mem_of_lookup h))
 ·have hi:i<vs.length:=by
   unfold start at h2;by_cases hi:i<vs.length
   ·exact hi
   ·rw[HH (by simpa using hi)] at h2
    rw[Oj] at h2;split at h2 <;> cases h2
  have ha:vs[i]?=some v:=by
   unfold start at h2;rw[Om (by simpa using hi),dw] at h2
   cases e:vs[i]? with
   | none=>rw[e] at h2; cases h2
   | some a=>rw[e] at h2; cases h2; rfl
  obtain⟨u,hu,rv⟩:=r.get ha
  have hp:ps[i]?=some y:=by
   rw[<- S.pre,List.getElem?_take_of_lt (by omega)]; exact h1
  have ndP:ps.Nodup:=by rw[<- S.pre]; exact S.nd.sublist (List.take_sublist _ _)
  refine⟨u,rv,?_⟩;rcases S.par y (oh hp) with k | k
  ·exact .inl ⟨k,xR ndP hp hu k⟩
  ·obtain⟨c,e⟩:=BX (n:=s.heap.objs.size+1) k;refine .inr ⟨.inl k,c,e,?_⟩;have q:=x.cell y c e;rw[xU ndP hp hu (by show scope.names.lookup y≠_; rw[k]; decide)] at q
   exact q
 ·exact e0.hok.fresh (pH (x.above y c (PySem.mem_of_lookup h)))
 ·unfold start;show _=N.length;rw[dh,cT,qJ];omega
theorem Q7 {CX:G8} {P:Program} {w:World} {K:PySem.W.Frag} {mg:Str->Option Value} {base:Heap} {k:Nat} {f:Addr} {name qual:Str} {params:Arguments} {body:List Stmt} {scope:Scope} {dV kV doc pm cdv ct oc:Value} {an od:Option Addr}
  {osl:Array (Option Value)} {N ps:List Str} {sp:Sp} (lk:K.lookup f=some ⟨oc,od,.func (PySem.W.fnOf name qual params body scope dV kV doc pm an cdv ct),osl⟩) (hcd:PySem.W.codeIn K cdv qual=true) (S:aR N ps scope)
  (len:∀vs H Q E,sp vs H Q E->vs.length=ps.length)
  (hbody:∀(A:Around) (outer:List Env) (s:Shared) (H:Hp) (vs:List V) (Q:VK) (E:XK),dZ k (A.deeper (envOfC qual scope s.heap.objs.size f cdv))->sp vs H Q E ->
   ∃t,Cq (vo CX P w K mg base N qual scope f cdv A outer s H E) body t/\t { nx:=fun _ H'=>Q .non H',rt:=Q } (start N vs) H) :
  bD P w K mg base CX (k+1) f (PySem.W.fnOf name qual params body scope dV kV doc pm an cdv ct) ps sp:=by
 refine⟨len,fun A outer s H args us vs Q E hr e0 hb r hsp=>?_⟩;have hl:=len _ _ _ _ hsp;have KX:K.In s.heap:=e0.mod.Te.keeps fun b o e=>(e0.bs b o e).1;have lim:s.heap.NoLimit:=e0.mod.nolimit.keeps fun b o e=>(e0.bs b o e).1
 have hkind:∀y∈ps.zip us,scope.names.lookup y.1=some .local\/(scope.names.lookup y.1=some .cell/\((cellsFrom (s.heap.objs.size+1) scope.names []).lookup y.1).isSome=true):=fun⟨n,v⟩ hy=>by
  rcases S.par n (Bj hy).1 with q | q
  ·exact .inl q
  ·exact .inr ⟨q,PySem.W.cellsFrom_some _ _ _ (.inl q)⟩
 refine codeAny_call_function hr.depth (KX _ _ lk) rfl S.co S.gen rfl (PySem.W.codeRec_of KX hcd) (hb _ _ _ _ ?_);refine wpAny_newFunctionEnv_cells S.kind hkind fun env he s1 x=>?_;subst he;refine⟨lim.keeps x.toInCall.keep,codeAny_func ?_⟩;obtain⟨t,ht,hq⟩:=hbody A outer s H vs Q E (hr.deeper _) hsp;have I:Inv (vo CX P w K mg base N qual scope f cdv A outer s H E) [] (start N vs) H s1:=xm S hr.hd e0 hl r x;refine mU (ht [] s1 (start N vs) H _ I hq) (fun fl s' hs=>?_) fun e s' hs=>hs
 have fin:∀{σ':St} {H':Hp} {v:V} {u:Value},Inv (vo CX P w K mg base N qual scope f cdv A outer s H E) [] σ' H' s'->RelV v u->Q v H'->CE outer P w H s Q u s':=
  fun {σ' H' v u} J rv q=>⟨v,H',J.os,J.bare,J.base,J.hok,rv,q⟩
 cases fl with
 | ret u=>
  obtain⟨v,σ',H',J,rv,q⟩:=hs;exact fin J rv q
 | next=>
  obtain⟨σ',H',J,q⟩:=hs;exact fin (v:=V.non) (u:=Value.none) J rfl q
 | brk=>
  obtain⟨_,_,_,q⟩:=hs;exact False.elim q
 | cont=>
  obtain⟨_,_,_,q⟩:=hs;exact False.elim q
section
variable {X:Cx} {x:Str} {p pos:Pos} {e:Expr} {es:List Expr} {t:TA} {id T:String} {r:List V->Hp->VK->Prop}
def V3 (r:List V->Hp->VK->Prop) (t:TA):TE:=fun σ H Q=>t σ H fun vs H1=>r vs H1 Q
theorem KJ (hc:du X (.builtin id) r) (hg:Gl X x) (hm:X.mg x=none) (hv:bootBuiltins x=some (.builtin id)) (ha:PA X (e::es) t) (hn:x ≠ "__name__" := by decide) (hdb:(x==("__debug__" : Str))=false:=by decide)
  (he:starEach (e::es) X.env=(false,eval e X.env)::starEach es X.env:=by rfl) (hpl:(backTo pos (starEach es X.env)).any (·.1)=false:=by rfl):PE X (.Call (.Name x p) (e::es) [] pos) (V3 r t):=by
 refine .mk ?_;intro pins s σ H Q I h;refine vR (jz I hg hm hv ?_ hn hdb);exact PyProof.Rows.callWith_builtin1 (cz (ha pos pins s σ H _ I h) fun us s1 ⟨vs,H1,I1,r1,q1⟩=>hc pins s1 σ H1 vs us Q I1 r1 q1) he hpl
theorem HN (hc:du X (.type T) r) (hg:Gl X x) (hm:X.mg x=none) (hv:bootBuiltins x=some (.type T)) (ha:PA X (e::es) t) (hn:x ≠ "__name__" := by decide) (hdb:(x==("__debug__" : Str))=false:=by decide)
  (he:starEach (e::es) X.env=(false,eval e X.env)::starEach es X.env:=by rfl) (hpl:(backTo pos (starEach es X.env)).any (·.1)=false:=by rfl):PE X (.Call (.Name x p) (e::es) [] pos) (V3 r t):=by
 refine .mk ?_;intro pins s σ H Q I h;refine vR (jz I hg hm hv ?_ hn hdb);exact PyProof.Rows.callWith_type1 (cz (ha pos pins s σ H _ I h) fun us s1 ⟨vs,H1,I1,r1,q1⟩=>hc pins s1 σ H1 vs us Q I1 r1 q1) he hpl
end
end L2
namespace HT
open PySem PyProof.Rows
section
open PySem.SeqAt
open PySem.AutoSeq1 (wpAny_loadPart')
open PySem.MeetsSeq PySem.MeetsSeq2 PySem.MeetsSeq3
end
section
variable {prog:Program} {w:World} {A:Around} {E:Value->Shared->Prop} {s:Shared}
theorem Qk {t b:Addr} {vs ws:List Value} {Q:Value->Shared->Prop} (ht:IsTup s.heap t vs.toArray) (hb:IsTup s.heap b ws.toArray) (hv:vs≠[])
  (h1:ws=[]->Q (.ref t) s) (h2:ws≠[]->Q (.ref s.heap.objs.size) { s with heap:=s.heap.push { cls:=.type "tuple",data:=.seq (vs++ws).toArray } })
  (hsz:vs.length+ws.length<=sizeLine):wpAny (model prog w) A (binaryOp .Add (.ref t) (.ref b)) Q E s:=by
 obtain⟨⟨cls,dd,data,sl⟩,ho,hc,n,hd⟩:=id ht;obtain⟨⟨cls2,dd2,data2,sl2⟩,ho2,hc2,n2,hd2⟩:=id hb;simp only at hc hd hc2 hd2;subst hc hd hc2 hd2;have e:vs.toArray++ws.toArray=(vs++ws).toArray:=by simp
 by_cases hw:ws=[]
 ·exact concat_meets ⟨_,ho,rfl⟩ ⟨_,ho2,rfl⟩ noFill_tuple_add seq_tuple_add PySem.F.slot_tuple_add PySem.F.entry_tuple_add (PySem.F.args_tuple_add_2 _ _)
   (tuple_addW1 t b vs.toArray ws.toArray n n2 dd dd2 sl sl2 (by simpa using hv) (by simp[hw])) ⟨ho,ho2,h1 hw⟩
 ·refine concat_meets ⟨_,ho,rfl⟩ ⟨_,ho2,rfl⟩ noFill_tuple_add seq_tuple_add PySem.F.slot_tuple_add PySem.F.entry_tuple_add (PySem.F.args_tuple_add_2 _ _)
   (tuple_addW2 t b vs.toArray ws.toArray n n2 dd dd2 sl sl2 (by simpa using hv) (by simpa using hw) (by rw[eG,eG]; exact hsz)) ⟨ho,ho2,?_⟩
  rw[e];exact h2 hw
def eX (n d:Nat):Option Int->Nat
 | none=>d
 | some v=>if v<0 then(v+(n:Int)).toNat else min v.toNat n
theorem An (n d:Nat):eX n d none=d:=rfl
theorem F_ (n d k:Nat):eX n d (some (k:Int))=min k n:=by
 show(if(k:Int)<0 then((k:Int)+(n:Int)).toNat else min (k:Int).toNat n)=min k n
 rw[aV (by omega),vP]
theorem RQ (n d:Nat) (hd:d<=n) (o:Option Int):eX n d o<=n:=by
 cases o with
 | none=>exact hd
 | some v=>
  show(if v<0 then(v+(n:Int)).toNat else min v.toNat n)<=n
  by_cases hv:v<0
  ·rw[a_ hv]; omega
  ·rw[aV hv]; exact Nat.min_le_right _ _
theorem GQ (v:Int) (n d:Nat):(if v<0 then max (v+(n:Int)) 0 else min v (n:Int))=((eX n d (some v):Nat):Int):=by
 show(if v<0 then max (v+(n:Int)) 0 else min v (n:Int))=(((if v<0 then(v+(n:Int)).toNat else min v.toNat n):Nat):Int)
 by_cases hv:v<0
 ·simp only[a_ hv]; omega
 ·simp only[aV hv]; omega
theorem Ey (lo hi:Option Int) (n:Nat):Builtin.Slice.sliceAdjust lo hi 1 (n:Int)=(((eX n 0 lo:Nat):Int),((eX n n hi:Nat):Int)):=by
 have h1:¬((1:Int)<0):=by omega
 unfold Builtin.Slice.sliceAdjust;simp only[h1,if_false];refine Prod.ext ?_ ?_
 ·cases lo with
  | none=>rfl
  | some v=>exact GQ v n 0
 ·cases hi with
  | none=>rfl
  | some v=>exact GQ v n n
theorem DP (i j:Nat):Builtin.Slice.slicePlaces (i:Int) (j:Int) 1=j-i:=by
 unfold Builtin.Slice.slicePlaces;have h1:(1:Int)>0:=by omega
 simp only[h1,if_true,Int.ediv_one];split <;> omega
theorem uc {v:Value} {o:Option Int} {Q:Option Int->Shared->Prop} (p:IsPart v o) (h:Q o s):wpAny (model prog w) A (Builtin.Slice.slicePartIndex v) Q E s:=by
 cases p with
 | none=>exact slicePart_none h
 | int i t=>exact slicePart_int h
theorem jG {sl:Addr} {vl vu:Value} {lo hi:Option Int} {n:Nat} {Q:Int×Int×Nat->Shared->Prop} (hs:s.heap.IsSliceOf sl vl vu .none) (pl:IsPart vl lo) (pu:IsPart vu hi)
  (h:Q (((eX n 0 lo:Nat):Int),1,eX n n hi-eX n 0 lo) s):wpAny (model prog w) A (Builtin.Slice.sliceApplied (.ref sl) (pure (n:Int))) Q E s:=by
 obtain⟨os,hos,hcs,hds⟩:=id hs;unfold Builtin.Slice.sliceApplied Builtin.Slice.sliceFields;refine aP (aP (jJ hos hds (x:=vl) rfl (aP (jJ hos hds (x:=vu) rfl (aP (jJ hos hds (x:=.none) rfl (bW ?_)))))));refine aP (slicePart_none ?_);show wpAny _ _ (if((1:Int)==0)=true then _ else _) _ _ s
 rw[aV (by decide)]
 refine aP (uc pl (aP (uc pu (aP (bW ?_)))));show wpAny _ _ (match Builtin.Slice.sliceAdjust lo hi 1 (n:Int) with | (lo,hi)=>pure (lo,(1:Int),Builtin.Slice.slicePlaces lo hi 1)) _ _ s
 rw[Ey lo hi n];show wpAny _ _ (pure (((eX n 0 lo:Nat):Int),(1:Int),Builtin.Slice.slicePlaces ((eX n 0 lo:Nat):Int) ((eX n n hi:Nat):Int) 1)) _ _ s;rw[DP];exact bW h
theorem Ky (xs:Array Value) (i k:Nat):((List.range k).filterMap fun(m:Nat)=>xs[((i:Int)+(m:Int)*1).toNat]?).toArray=((xs.toList.drop i).take k).toArray:=by
 have e:(fun(m:Nat)=>xs[((i:Int)+(m:Int)*1).toNat]?)=fun m=>xs[i+m]?:=by
  funext m
  have:((i:Int)+(m:Int)*1).toNat=i+m:=by omega
  rw[this]
 rw[e];have:=pick_run xs i k;rw[List.filterMap_map] at this;have e2:((fun x=>xs[x]?)∘fun x=>i+x)=fun m=>xs[i+m]?:=rfl;rw[e2] at this;rw[this]
theorem pP {t sl:Addr} {items:Array Value} {vl vu:Value} {lo hi:Option Int} {Q:Value->Shared->Prop} (ht:IsTup s.heap t items) (hs:s.heap.IsSliceOf sl vl vu .none) (pl:IsPart vl lo) (pu:IsPart vu hi)
  (hw:¬(eX items.size 0 lo=0/\eX items.size items.size hi=items.size))
  (h:Q (.ref s.heap.objs.size) { s with heap:=s.heap.push { cls:=.type "tuple",data:=.seq ((items.toList.drop (eX items.size 0 lo)).take (eX items.size items.size hi-eX items.size 0 lo)).toArray } })
  (hsz:items.size<=sizeLine):wpAny (model prog w) A (getItem (.ref t) (.ref sl)) Q E s:=by
 have Gy:sizeOk (.seq ((items.toList.drop (eX items.size 0 lo)).take (eX items.size items.size hi-eX items.size 0 lo)).toArray):=by
  show((items.toList.drop (eX items.size 0 lo)).take (eX items.size items.size hi-eX items.size 0 lo)).toArray.size<=sizeLine;rw[eG,lH,Az,Array.length_toList];omega
 have hj:eX items.size items.size hi<=items.size:=RQ _ _ (bG _) hi;obtain⟨os,hos,hcs,hds⟩:=id hs;have hTs:s.TypeIs (.ref sl) "slice" := ⟨os,hos,hcs⟩;unfold getItem
 try with_reducible refine mV ?_
 first | refine aP (bW ?_) | skip
 refine aP (wpAny_sequenceKey ht.typeIs (by decide) ?_)
 refine aP (Hy (name:=Str.ofString "__getitem__") ht.typeIs PyProof.Rows.slot_tuple_getitem
  (Ba PyProof.Rows.slot_tuple_getitem ht.typeIs entry_tuple_getitem ?_ (args_tuple_getitem _ _)))
 show wpAny _ _ (Builtin.Tuple.tupleItemsOf (.ref t) >>= _) _ _ s;refine aP (tupleItemsOf_ ht ?_);refine aP (Be hTs ?_);rw[a_ (by decide)]
 refine aP (jG hs pl pu ?_)
 have hno:¬((((eX items.size 0 lo:Nat):Int)==0&&(1:Int)==1&&(eX items.size items.size hi-eX items.size 0 lo)==items.size)=true):=by
  intro q;rw[Dt,Dt] at q;have q1:((eX items.size 0 lo:Nat):Int)=0:=eq_of_beq q.1.1;have q2:eX items.size items.size hi-eX items.size 0 lo=items.size:=eq_of_beq q.2;exact hw ⟨by omega,by omega⟩
 show wpAny _ _ (if(((eX items.size 0 lo:Nat):Int)==0&&(1:Int)==1&&(eX items.size items.size hi-eX items.size 0 lo)==items.size)=true then _ else _) _ _ s
 rw[aV hno,Ky]
 first
  | exact aP (m:=Builtin.Tuple.tupleExact _) (vQ (bW ⟨_,rfl,bW h⟩) Gy)
  | exact aP (m:=Builtin.Tuple.tupleExact _) (vQ (aP (bW (bW ⟨_,rfl,bW h⟩))) Gy)
  | exact aP (aP (m:=Builtin.Tuple.tupleExact _) (vQ (bW (bW ⟨_,rfl,bW h⟩)) Gy))
  | exact aP (aP (m:=Builtin.Tuple.tupleExact _) (vQ (bW ⟨_,rfl,bW h⟩) Gy))
end
end HT
namespace L2
open PySem PySem.Spec PyProof.Rows
abbrev TO:=St->Hp->(Option Int->Hp->Prop)->Prop
structure PO (X:Cx) (e:Option Expr) (t:TO):Prop where
 mk ::
 go :
 ∀(pins:List (Addr×Obj)) (s:Shared) (σ:St) (H:Hp) (Q:Option Int->Hp->Prop),Inv X pins σ H s->t σ H Q ->
  wpAny (model X.prog X.w) X.A (evalPart e X.env) (fun u s'=>∃o H',Inv X pins σ H' s'/\IsPart u o/\Q o H') X.xe s
instance {X:Cx} {e:Option Expr} {t:TO}:CoeFun (PO X e t) (fun _=>
 ∀(pins:List (Addr×Obj)) (s:Shared) (σ:St) (H:Hp) (Q:Option Int->Hp->Prop),Inv X pins σ H s->t σ H Q ->
  wpAny (model X.prog X.w) X.A (evalPart e X.env) (fun u s'=>∃o H',Inv X pins σ H' s'/\IsPart u o/\Q o H') X.xe s):=⟨PO.go⟩
def Fq:TO:=fun _ H Q=>Q none H
def Qy (t:TE):TO:=fun σ H Q=>t σ H fun x H1=>∃i,x=.int i/\Q (some i) H1
section
variable {X:Cx} {e:Expr} {te:TE} {lo hi:Option Expr} {tl th:TO} {pos p2:Pos}
theorem gf:PO X none Fq:=by
 refine .mk ?_;intro pins s σ H Q I h;rw[evalPart_none];exact bW ⟨none,H,I,.none,h⟩
theorem gb (h:PE X e te):PO X (some e) (Qy te):=by
 refine .mk ?_;intro pins s σ H Q I hw;rw[evalPart_some];refine cz (h pins s σ H _ I hw) fun u s1 qx=>?_;obtain⟨x,H1,I1,r1,q1⟩:=qx;obtain⟨i,rfl,q⟩:=q1;obtain⟨t,rfl⟩:=r1;exact⟨some i,H1,I1,.int i t,q⟩
structure Us (X:Cx) (r:V->Option Int->Option Int->Hp->VK->Prop):Prop where
 mk ::
 go :
 ∀(pins:List (Addr×Obj)) (s:Shared) (σ:St) (H:Hp) (x:V) (v vl vu:Value) (lo hi:Option Int) (sl:Addr) (Q:VK),Inv X pins σ H s->RelV x v->s.heap.IsSliceOf sl vl vu .none->IsPart vl lo->IsPart vu hi->r x lo hi H Q ->
  ∃T id,typeLookup (.type T) "__getitem__" = pure (some (.builtin id))/\s.TypeIs v T/\wpAny (model X.prog X.w) X.A (getItem v (.ref sl)) (EP X pins σ Q) X.xe s
instance {X:Cx} {r:V->Option Int->Option Int->Hp->VK->Prop}:CoeFun (Us X r) (fun _=>
 ∀(pins:List (Addr×Obj)) (s:Shared) (σ:St) (H:Hp) (x:V) (v vl vu:Value) (lo hi:Option Int) (sl:Addr) (Q:VK),Inv X pins σ H s->RelV x v->s.heap.IsSliceOf sl vl vu .none->IsPart vl lo->IsPart vu hi->r x lo hi H Q ->
  ∃T id,typeLookup (.type T) "__getitem__" = pure (some (.builtin id))/\s.TypeIs v T/\wpAny (model X.prog X.w) X.A (getItem v (.ref sl)) (EP X pins σ Q) X.xe s):=⟨Us.go⟩
def tSl (r:V->Option Int->Option Int->Hp->VK->Prop) (te:TE) (tl th:TO):TE:=fun σ H Q=>te σ H fun x H1=>tl σ H1 fun l H2=>th σ H2 fun u H3=>r x l u H3 Q
theorem eQ {r:V->Option Int->Option Int->Hp->VK->Prop} (hr:Us X r) (he:PE X e te) (hl:PO X lo tl) (hu:PO X hi th):PE X (.Subscript e (.Slice lo hi none p2) pos) (tSl r te tl th):=by
 refine .mk ?_;intro pins s σ H Q I h;refine Subscript_ (cz (he pins s σ H _ I h) fun v s1 qx=>?_);obtain⟨x,H1,I1,r1,q1⟩:=qx;refine wpAny_Slice (cz (hl pins s1 σ H1 _ I1 q1) fun vl s2 ⟨l,H2,I2,pl,q2⟩=>cz (hu pins s2 σ H2 _ I2 q2) fun vu s3 qx=>?_);obtain⟨u,H3,I3,pu,q3⟩:=qx;rw[evalPart_none];refine bW ?_;have I4:Inv X pins σ H3 { s3 with heap:=s3.heap.push { cls:=.type "slice",data:=.fields #[vl,vu,.none] } }:=I3.kept (t':=s3.toks) fun b ob q=>e_ _ q
 obtain⟨T,id,hT,ht,hg⟩:=hr pins { s3 with heap:=s3.heap.push { cls:=.type "slice",data:=.fields #[vl,vu,.none] } } σ H3 x v vl vu l u s3.heap.objs.size Q I4 r1 (Heap.IsSliceOf.new ..) pl pu q3
 show wpAny (model X.prog X.w) X.A (subscriptTail e (.Slice lo hi none p2) v (.ref s3.heap.objs.size)) (EP X pins σ Q) X.xe { s3 with heap:=s3.heap.push { cls:=.type "slice",data:=.fields #[vl,vu,.none] } }
 exact tail_any (ops:=[.ref s3.heap.objs.size,v]) ht hT hg (by with_unfolding_all rfl)
def sy (xs:List V) (lo hi:Option Int):List V:=(xs.drop (HT.eX xs.length 0 lo)).take (HT.eX xs.length xs.length hi-HT.eX xs.length 0 lo)
theorem rJ (xs:List V) (lo hi:Option Int):(sy xs lo hi).length<=xs.length:=by
 unfold sy;rw[lH,Az];omega
def Z6 (K:PySem.W.Frag):V->Option Int->Option Int->Hp->VK->Prop:=fun x lo hi H Q=>∃a xs,x=.ref a/\fW K H a xs /\
 ¬(HT.eX xs.length 0 lo=0/\HT.eX xs.length xs.length hi=xs.length)/\∀p,H p=none->Q (.ref p) (upd H p (.tup (sy xs lo hi)))
theorem RP:Us X (Z6 X.K):=by
 refine .mk ?_;intro pins s σ H x v vl vu lo hi sl Q I rx hs pl pu h;obtain⟨a,xs,rfl,hx,hw,q⟩:=h;cases rx;obtain⟨its,r,ht,hz⟩:=I.tuple hx;have hlen:its.toArray.size=xs.length:=by rw[eG]; exact r.length.symm
 refine⟨"tuple",_,PyProof.Rows.slot_tuple_getitem.lookup,ht.typeIs,?_⟩;refine HT.pP ht hs pl pu (by rw[hlen]; exact hw) ?_ (by rw[hlen]; exact hz)
 rw[hlen];refine⟨.ref s.heap.objs.size,_,I.laid (t':=s.toks) (o:=.tup (sy xs lo hi)) (fun b ob q=>e_ _ q) (bG _) ?_,rfl,q _ (I.hok.fresh (bG _))⟩;exact⟨kj (rJ xs lo hi) hz,_,(r.drop (HT.eX xs.length 0 lo)).take (HT.eX xs.length xs.length hi-HT.eX xs.length 0 lo),IsTup.new _ _⟩
def Ww (K:PySem.W.Frag):R2:=fun x y H Q=>∃a b xs ys,x=.ref a/\y=.ref b/\fW K H a xs/\fW K H b ys/\xs≠[]/\xs.length+ys.length<=sizeLine /\
 (ys=[]->Q (.ref a) H)/\(ys≠[]->∀p,H p=none->Q (.ref p) (upd H p (.tup (xs++ys))))
theorem Vals.yQ {xs:List V} {us:List Value} (r:Vals xs us):us=[]↔xs=[]:=by
 cases r with
 | nil=>simp
 | cons _ _=>simp
theorem O6:mj X (binaryOp .Add) (Ww X.K):=by
 refine .mk ?_;intro pins s σ H x y v u Q I rx ry h;obtain⟨a,b,xs,ys,rfl,rfl,ha,hb,hx,hz,q1,q2⟩:=h;cases rx;cases ry;obtain⟨its,r1,p1,_⟩:=I.tuple ha;obtain⟨its2,r2,p2,_⟩:=I.tuple hb;refine HT.Qk p1 p2 (fun z=>hx (r1.yQ.mp z)) (fun z=>⟨.ref a,H,I,rfl,q1 (r2.yQ.mp z)⟩) (fun z=>?_) (by rw[<- r1.length,<- r2.length]; exact hz)
 refine⟨.ref s.heap.objs.size,_,I.laid (t':=s.toks) (o:=.tup (xs++ys)) (fun b ob q=>e_ _ q) (bG _) ?_,rfl,q2 (fun w=>z (r2.yQ.mpr w)) _ (I.hok.fresh (bG _))⟩;exact⟨by rw[dh]; exact hz,_,r1.append r2,IsTup.new _ _⟩
end
def Pu (n:Nat) (i:Int):Option Nat:=if 0<=i then(if i<n then some i.toNat else none) else if -(n:Int)<=i then some (i+n).toNat else none
def Ck {α:Type} (xs:List α) (i:Int):Option α:=(Pu xs.length i).bind fun j=>xs[j]?
theorem Gv {n:Nat} {i:Int} {j:Nat} (h:Pu n i=some j):seqIndex? i n=some j/\j<n/\-(n:Int)<=i/\i<n:=by
 unfold Pu at h;by_cases h0:0<=i
 ·rw[a_ h0] at h;by_cases h1:i<n
  ·rw[a_ h1] at h;have e:i.toNat=j:=Option.some.inj h;exact⟨by rw[seqIndex_of h0 h1,e],by omega,by omega,h1⟩
  ·rw[aV h1] at h; cases h
 ·rw[aV h0] at h;by_cases h1:-(n:Int)<=i
  ·rw[a_ h1] at h;have e:(i+n).toNat=j:=Option.some.inj h;exact⟨by rw[seqIndex_neg (by omega) h1,e],by omega,h1,by omega⟩
  ·rw[aV h1] at h; cases h
theorem zX {α:Type} {xs:List α} {i:Int} {v:α} (h:Ck xs i=some v):∃j,seqIndex? i xs.length=some j/\xs[j]?=some v/\j<xs.length/\-(xs.length:Int)<=i/\i<xs.length:=by
 unfold Ck at h;cases e:Pu xs.length i with
 | none=>rw[e] at h; cases h
 | some j=>
  rw[e] at h;obtain⟨h1,h2,h3,h4⟩:=Gv e;exact⟨j,h1,h,h2,h3,h4⟩
theorem aU {α:Type} {xs:List α} {j:Nat} {v:α} (h:xs[j]?=some v):Ck xs (j:Int)=some v:=by
 have hj:j<xs.length:=(eN.mp h).1
 have e:Pu xs.length (j:Int)=some j:=by
  unfold Pu;rw[a_ (by omega),a_ (by omega)]; simp
 unfold Ck; rw[e]; exact h
def Qs (b:Expr):Prop:=∀o i,subscripted b false o i=operate [o,i] (getItem o i)
structure Jy (X:Cx) (r:R2):Prop where
 mk ::
 go :
 ∀(value slice:Expr) (pins:List (Addr×Obj)) (s:Shared) (σ:St) (H:Hp) (x y:V) (v u:Value) (Q:VK),Inv X pins σ H s->RelV x v->RelV y u->r x y H Q ->
  subscripted slice false v u=operate [v,u] (getItem v u)->wpAny (model X.prog X.w) X.A (subscriptTail value slice v u) (EP X pins σ Q) X.xe s
instance {X:Cx} {r:R2}:CoeFun (Jy X r) (fun _=>
 ∀(value slice:Expr) (pins:List (Addr×Obj)) (s:Shared) (σ:St) (H:Hp) (x y:V) (v u:Value) (Q:VK),Inv X pins σ H s->RelV x v->RelV y u->r x y H Q ->
  subscripted slice false v u=operate [v,u] (getItem v u)->wpAny (model X.prog X.w) X.A (subscriptTail value slice v u) (EP X pins σ Q) X.xe s):=⟨Jy.go⟩
def Zf (X:Cx) (id:String) (r:V->List V->Hp->VK->Prop):Prop:=
 ∀(pins:List (Addr×Obj)) (s:Shared) (σ:St) (H:Hp) (x:V) (xs:List V) (v:Value) (us:List Value) (Q:VK),Inv X pins σ H s->RelV x v->Vals xs us->r x xs H Q ->
  wpAny (model X.prog X.w) X.A (call (.builtin id) (v::us)) (EP X pins σ Q) X.xe s
section
variable {X:Cx} {a b:Expr} {ta tb:TE} {pos:Pos}
theorem Jy.or {r r':R2} (h:Jy X r) (h':Jy X r'):Jy X (fun x y H Q=>r x y H Q\/r' x y H Q):=by
 refine .mk ?_;intro value slice pins s σ H x y v u Q I rx ry q hs;rcases q with q | q
 ·exact h value slice pins s σ H x y v u Q I rx ry q hs
 ·exact h' value slice pins s σ H x y v u Q I rx ry q hs
theorem bw {r:R2} (hr:Jy X r) (ha:PE X a ta) (hb:PE X b tb) (hs:Qs b):PE X (.Subscript a b pos) (Ry r ta tb):=by
 refine .mk ?_;intro pins s σ H Q I h;exact Subscript_ (Um ha hb I h fun v u s2 x y H2 I2 rx ry q=>hr a b pins s2 σ H2 x y v u Q I2 rx ry q (hs _ _))
def aaa (K:PySem.W.Frag):R2:=fun x y H Q=>∃p xs i v,x=.ref p/\y=.int i/\cV K H p xs/\Ck xs i=some v/\Q v H
def Z_ (K:PySem.W.Frag):R2:=fun x y H Q=>∃p xs i v,x=.ref p/\y=.int i/\fW K H p xs/\Ck xs i=some v/\Q v H
def Wr:R2:=fun x y H Q=>∃z i c,x=.str z/\y=.int i/\z.length<=sizeLine/\Ck z.cps.toList i=some c/\Q (.str ⟨#[c]⟩) H
theorem Gu:Jy X (aaa X.K):=by
 refine .mk ?_;intro value slice pins s σ H x y v u Q I rx ry h hs;obtain⟨p,xs,i,z,rfl,rfl,hq,he,q⟩:=h;cases rx;obtain⟨t,rfl⟩:=ry;obtain⟨its,r,pl,hz⟩:=I.list hq;obtain⟨j,h1,h2,h3,h4,h5⟩:=zX he;obtain⟨w,ew,Ao⟩:=r.get h2;have hl:=r.length;have hn:=oG;have fin:EP X pins σ Q w s:=⟨z,H,I,Ao,q⟩;by_cases h0:0<=i
 ·have hj:i.toNat=j:=by
   rw[seqIndex_of h0 h5] at h1;exact Option.some.inj h1
  exact item_listR pl.isList h0 (by omega) (by rw[hj]; simpa using ew) fin hs
 ·have hj:(i+(its.toArray.size:Int)).toNat=j:=by
   rw[seqIndex_neg (by omega) h4] at h1
   rw[eG,<- hl];exact Option.some.inj h1
  exact subscriptTail_builtinR (x:=w) pl.isList.typeIs slot_list_getitem.lookup
   (wpAny_getItem_list_neg (Q:=fun r s'=>r=w/\EP X pins σ Q r s') pl.isList (by omega) (by rw[eG] <;> omega) (by omega) (by rw[hj]; simpa using ew) ⟨rfl,fin⟩) hs
theorem Tj:Jy X (Z_ X.K):=by
 refine .mk ?_;intro value slice pins s σ H x y v u Q I rx ry h hs;obtain⟨p,xs,i,z,rfl,rfl,hq,he,q⟩:=h;cases rx;obtain⟨t,rfl⟩:=ry;obtain⟨its,r,pl,hz⟩:=I.tuple hq;obtain⟨j,h1,h2,h3,h4,h5⟩:=zX he;obtain⟨w,ew,Ao⟩:=r.get h2;have hl:=r.length;have hn:=oG;have fin:EP X pins σ Q w s:=⟨z,H,I,Ao,q⟩;exact subscriptTail_builtinR (x:=w) pl.typeIs slot_tuple_getitem.lookup
  (getItem_tuple (j:=j) (Q:=fun r s'=>r=w/\EP X pins σ Q r s') pl (by omega) (by omega) (by rw[eG,<- hl]; exact h1) (by simpa using ew) ⟨rfl,fin⟩) hs
theorem Ei:Jy X Wr:=by
 refine .mk ?_;intro value slice pins s σ H x y v u Q I rx ry h hs;obtain⟨z,i,c,rfl,rfl,hz,he,q⟩:=h;obtain⟨t,rfl⟩:=rx;obtain⟨t',rfl⟩:=ry;obtain⟨j,h1,h2,h3,h4,h5⟩:=zX he;have hl:z.cps.toList.length=z.length:=by simp[Str.length]
 rw[hl] at h1 h4 h5;have hn:=oG
 exact tail_any (typeIs_str s z t) slot_str_getitem.lookup (getItem_str (c:=c) (by
  have e1:decide (i < -(2 ^ 63:Int))=false:=lG (by omega)
  have e2:decide (i≥2 ^ 63)=false:=lG (by omega)
  rw[e1,e2,Bool.or_false]) (by rw[h1]; simpa using h2) ⟨.str ⟨#[c]⟩,H,I.tok _,⟨_,rfl⟩,q⟩) hs
theorem Eb (its:List Value) (n j:Nat) (u:Value):Obj.mapSeq (·.setIfInBounds j u) { cls:=.type "list",data:=.seq its.toArray n }={ cls:=.type "list",data:=.seq (its.set j u).toArray n }:=by
 simp[Obj.mapSeq]
theorem Inv.lst {pins:List (Addr×Obj)} {σ:St} {H:Hp} {s:Shared} {p:Addr} {xs:List V} (I:Inv X pins σ H s) (h:H p=some (.lst xs)) :
  ∃(its:List Value) (n:Nat),Vals xs its/\s.heap.get? p=some { cls:=.type "list",data:=.seq its.toArray n }/\xs.length<=sizeLine:=by
 obtain⟨z,its,n,r,e⟩:=I.hok p _ h;exact⟨its,n,r,e,z⟩
theorem Inv.S9 {pins:List (Addr×Obj)} {σ:St} {H:Hp} {s:Shared} {p:Addr} {xs ys:List V} {its its':List Value} {n n':Nat} {f:Obj->Obj} (I:Inv X pins σ H s) (h:H p=some (.lst xs))
  (ho:s.heap.get? p=some { cls:=.type "list",data:=.seq its.toArray n }) (hf:f { cls:=.type "list",data:=.seq its.toArray n }={ cls:=.type "list",data:=.seq its'.toArray n' }) (r:Vals ys its') (hz:ys.length<=sizeLine) (t:Nat) :
  Inv X pins σ (upd H p (.lst ys)) { s with heap:=s.heap.update p f,toks:=t }:=by
 have e:(s.heap.update p f).get? p=some { cls:=.type "list",data:=.seq its'.toArray n' }:=by
  rw[Heap.get?_update_self f ho (by rw[hf] <;> rfl),hf]
 refine I.write (x:=p) (e:=p) (by rw[h]; trivial) (.inl rfl) (fun b u hb q=>(DN _ _ (Ne.symm hb)).trans q) ⟨_,e⟩ ?_
 exact⟨hz,its',n',r,e⟩
def Wm:V->V->V->Hp->(Hp->Prop)->Prop:=fun o i v H Q=>∃p xs k j,o=.ref p/\i=.int k/\H p=some (.lst xs)/\Pu xs.length k=some j/\Q (upd H p (.lst (xs.set j v)))
theorem set_list:Jq X Wm:=by
 refine .mk ?_;intro pins s σ H o i v ov iv u Q I ro ri rv h;obtain⟨p,xs,k,j,rfl,rfl,hp,hj,q⟩:=h;cases ro;obtain⟨t,rfl⟩:=ri;obtain⟨its,n,r,ho,hz⟩:=I.lst hp;obtain⟨h1,h2,h3,h4⟩:=Gv hj;have hl:=r.length;have hn:=oG
 have I':Inv X pins σ (upd H p (.lst (xs.set j v))) { s with heap:=s.heap.update p (Obj.mapSeq (·.setIfInBounds j u)) }:=
  I.S9 hp ho (Eb its n j u) (r.set rv j) (by rw[List.length_set]; exact hz) s.toks
 by_cases h0:0<=k
 ·have hk:k.toNat=j:=by
   rw[seqIndex_of h0 h4] at h1;exact Option.some.inj h1
  exact PySem.W.ki_setAt ho h0 (by omega) (by rw[eG,<- hl]; exact h4) (by rw[hk]; exact⟨_,I',q⟩)
 ·have hk:(k+(its.toArray.size:Int)).toNat=j:=by
   rw[seqIndex_neg (by omega) h3] at h1
   rw[eG,<- hl];exact Option.some.inj h1
  exact PySem.W.ki_setBack ho (by omega) (by rw[eG,<- hl]; exact h3) (by omega) (by rw[hk]; exact⟨_,I',q⟩)
theorem ye (lo hi:Option Int) (n:Nat):(sliceBounds lo hi none n).1=((HT.eX n 0 lo:Nat):Int)/\(sliceBounds lo hi none n).2.1=((HT.eX n n hi:Nat):Int)/\(sliceBounds lo hi none n).2.2=1:=by
 refine⟨?_,?_,rfl⟩
 ·cases lo with
  | none=>simp[sliceBounds,HT.eX]
  | some i=>
   simp only[sliceBounds,HT.eX,Option.getD_none,show(1:Int)>0 by decide,if_true]
   by_cases h:i<0
   ·simp only[h,if_true] <;> omega
   ·simp only[h,if_false] <;> omega
 ·cases hi with
  | none=>simp[sliceBounds,HT.eX]
  | some i=>
   simp only[sliceBounds,HT.eX,Option.getD_none,show(1:Int)>0 by decide,if_true]
   by_cases h:i<0
   ·simp only[h,if_true] <;> omega
   ·simp only[h,if_false] <;> omega
theorem vM (its:List Value) (lo hi:Option Int):slicePick its.toArray lo hi none=((its.drop (HT.eX its.length 0 lo)).take (HT.eX its.length its.length hi-HT.eX its.length 0 lo)).toArray:=by
 obtain⟨h1,h2,h3⟩:=ye lo hi its.toArray.size;unfold slicePick;rw[h1,h2,h3];simp only[sliceRange_one,pick_run,eG] <;> rfl
def Z8 (K:PySem.W.Frag):V->Option Int->Option Int->Hp->VK->Prop:=fun x lo hi H Q=>∃a xs,x=.ref a/\cV K H a xs/\∀p,H p=none->Q (.ref p) (upd H p (.lst (sy xs lo hi)))
theorem NP:Us X (Z8 X.K):=by
 refine .mk ?_;intro pins s σ H x v vl vu lo hi sl Q I rx hs pl pu h;obtain⟨a,xs,rfl,hx,q⟩:=h;cases rx;obtain⟨its,r,ht,hz⟩:=I.list hx;have hlen:=r.length;refine⟨"list",_,slot_list_getitem.lookup,ht.isList.typeIs,?_⟩;refine wpAny_getItem_list_slice ht.isList hs pl pu .none (by simp) ?_ (by rw[eG] <;> omega)
 rw[vM,<- hlen];refine⟨.ref s.heap.objs.size,_,I.laid (t':=s.toks) (o:=.lst (sy xs lo hi)) (fun b ob q=>e_ _ q) (bG _) ?_,rfl,q _ (I.hok.fresh (bG _))⟩;exact⟨kj (rJ xs lo hi) hz,_,0,(r.drop (HT.eX xs.length 0 lo)).take (HT.eX xs.length xs.length hi-HT.eX xs.length 0 lo),dN _ rfl⟩
def pU:V->Bool
 | .non=>true
 | .bl _=>true
 | .int _=>true
 | .str _=>true
 | _=>false
def M4:V->V->Bool
 | .non,.non=>true
 | .bl a,.bl b=>a==b
 | .bl a,.int b=>(if a then 1 else 0)==b
 | .int a,.bl b=>a==(if b then 1 else 0)
 | .int a,.int b=>a==b
 | .str a,.str b=>a==b
 | _,_=>false
theorem T_ {A:Around} {s:Shared} {y x:V} {u v:Value} (ry:RelV y u) (rx:RelV x v) (fy:pU y=true) (fx:pU x=true):SeqAt.EqAt A s u v (M4 y x):=by
 cases y with
 | non=>
  cases ry;cases x with
  | non=>cases rx; exact SeqAt.EqAt.same _
  | bl b=>cases rx; exact SeqAt.EqAt.none_bool b
  | int b=>obtain⟨t,rfl⟩:=rx; exact SeqAt.EqAt.none_int b t
  | str b=>obtain⟨t,rfl⟩:=rx; exact SeqAt.EqAt.none_str b t
  | _=>exact absurd (show false=true from fx) jw
 | bl a=>
  cases ry;cases x with
  | non=>cases rx; exact SeqAt.EqAt.bool_none a
  | bl b=>cases rx; exact SeqAt.EqAt.bool_bool a b
  | int b=>obtain⟨t,rfl⟩:=rx; exact SeqAt.EqAt.bool_int a b t
  | str b=>obtain⟨t,rfl⟩:=rx; exact SeqAt.EqAt.bool_str a b t
  | _=>exact absurd (show false=true from fx) jw
 | int a=>
  obtain⟨t',rfl⟩:=ry;cases x with
  | non=>cases rx; exact SeqAt.EqAt.int_none a t'
  | bl b=>cases rx; exact SeqAt.EqAt.int_bool a t' b
  | int b=>obtain⟨t,rfl⟩:=rx; exact SeqAt.EqAt.int_int a t' b t
  | str b=>obtain⟨t,rfl⟩:=rx; exact SeqAt.EqAt.int_str a t' b t
  | _=>exact absurd (show false=true from fx) jw
 | str a=>
  obtain⟨t',rfl⟩:=ry;cases x with
  | non=>cases rx; exact SeqAt.EqAt.str_none a t'
  | bl b=>cases rx; exact SeqAt.EqAt.str_bool a t' b
  | int b=>obtain⟨t,rfl⟩:=rx; exact SeqAt.EqAt.str_int a t' b t
  | str b=>obtain⟨t,rfl⟩:=rx; exact SeqAt.EqAt.str_str a t' b t
  | _=>exact absurd (show false=true from fx) jw
 | _=>exact absurd (show false=true from fy) jw
def Eo (x:V) (u:Value):Bool:=match u with
 | .none=>M4 .non x
 | .bool b=>M4 (.bl b) x
 | .int i _=>M4 (.int i) x
 | .str z _=>M4 (.str z) x
 | _=>false
theorem L_ {x y:V} {u:Value} (r:RelV y u) (f:pU y=true):Eo x u=M4 y x:=by
 cases y with
 | non=>cases r; rfl
 | bl b=>cases r; rfl
 | int i=>obtain⟨t,rfl⟩:=r; rfl
 | str z=>obtain⟨t,rfl⟩:=r; rfl
 | _=>exact absurd (show false=true from f) jw
theorem qi {x:V}:∀{xs:List V} {us:List Value},Vals xs us->xs.all pU=true->us.any (Eo x)=xs.any fun y=>M4 y x
 | _,_,.nil,_=>rfl
 | y::xs,u::us,.cons r t,f=>by
  rw[List.all_cons,Dt] at f;rw[Dr,Dr,L_ r f.1,qi t f.2]
theorem lL {A:Around} {s:Shared} {x:V} {v:Value} (rx:RelV x v) (fx:pU x=true):∀{xs:List V} {us:List Value},Vals xs us->xs.all pU=true->∀u∈us,SeqAt.EqAt A s u v (Eo x u)
 | _,_,.nil,_=>fun u hu=>by cases hu
 | y::xs,u::us,.cons r t,f=>fun u' hu=>by
  rw[List.all_cons,Dt] at f;rcases d_.mp hu with rfl | hu
  ·rw[L_ r f.1]; exact T_ r rx f.1 fx
  ·exact lL rx fx t f.2 u' hu
def inV (x:V) (xs:List V):Bool:=xs.any fun y=>M4 y x
def Wt (K:PySem.W.Frag) (neg:Bool):R2:=fun x y H Q=>∃p xs,y=.ref p/\(cV K H p xs\/fW K H p xs)/\pU x=true/\xs.all pU=true/\Q (.bl (if neg then !inV x xs else inV x xs)) H
theorem HW:mj X (compareOp .In) (Wt X.K false):=by
 refine .mk ?_;intro pins s σ H x y v u Q I rx ry h;obtain⟨p,xs,rfl,hq,fx,fs,q⟩:=h;cases ry;rcases hq with hq | hq
 ·obtain⟨its,r,pl,hz⟩:=I.list hq;refine SeqAt.in_listAt (Eo x) pl.isList (fun w hw=>lL rx fx r fs w (by simpa using hw)) ⟨.bl _,H,I,rfl,?_⟩
  rw[show its.toArray.any (Eo x)=its.any (Eo x) by simp,qi r fs]
  exact q
 ·obtain⟨its,r,pl,hz⟩:=I.tuple hq;refine SeqAt.in_tupleAt (Eo x) pl (fun w hw=>lL rx fx r fs w (by simpa using hw)) ⟨.bl _,H,I,rfl,?_⟩
  rw[show its.toArray.any (Eo x)=its.any (Eo x) by simp,qi r fs]
  exact q
theorem yL:mj X (compareOp .NotIn) (Wt X.K true):=by
 refine .mk ?_;intro pins s σ H x y v u Q I rx ry h;obtain⟨p,xs,rfl,hq,fx,fs,q⟩:=h;cases ry;rcases hq with hq | hq
 ·obtain⟨its,r,pl,hz⟩:=I.list hq;refine SeqAt.notIn_listAt (Eo x) pl.isList (fun w hw=>lL rx fx r fs w (by simpa using hw)) ⟨.bl _,H,I,rfl,?_⟩
  rw[show its.toArray.any (Eo x)=its.any (Eo x) by simp,qi r fs]
  exact q
 ·obtain⟨its,r,pl,hz⟩:=I.tuple hq;refine SeqAt.notIn_tupleAt (Eo x) pl (fun w hw=>lL rx fx r fs w (by simpa using hw)) ⟨.bl _,H,I,rfl,?_⟩
  rw[show its.toArray.any (Eo x)=its.any (Eo x) by simp,qi r fs]
  exact q
theorem zP:du X (.builtin "len") (fun xs H Q=>∃p ys,xs=[.ref p]/\(cV X.K H p ys\/fW X.K H p ys)/\Q (.int ys.length) H):=by
 refine .mk ?_;intro pins s σ H xs us Q I r h;obtain⟨p,ys,rfl,hq,q⟩:=h;obtain⟨u,rfl,rx⟩:=vals1 r;cases rx;have hn:=oG;rcases hq with hq | hq
 ·obtain⟨its,r',pl,hz⟩:=I.list hq;have hlen:=r'.length;exact Calls.call_len_list pl.isList (by simp only[eG] <;> omega) ⟨.int ys.length,H,I.tok _,⟨s.toks+1,by rw[eG,hlen]⟩,q⟩
 ·obtain⟨its,r',pl,hz⟩:=I.tuple hq;have hlen:=r'.length;exact len_tuple pl (by simp only[eG] <;> omega) ⟨.int ys.length,H,I.tok _,⟨s.toks+1,by rw[eG,hlen]⟩,q⟩
theorem qb:du X (.builtin "len") (fun xs H Q=>∃z,xs=[.str z]/\z.length<=sizeLine/\Q (.int z.length) H):=by
 refine .mk ?_;intro pins s σ H xs us Q I r h;obtain⟨z,rfl,hz,q⟩:=h;obtain⟨u,rfl,t,rfl⟩:=vals1 r;have hn:=oG;exact len_str (by omega) ⟨.int z.length,H,I.tok _,⟨_,rfl⟩,q⟩
theorem p_:du X (.type "list") (fun xs H Q=>∃p ys,xs=[.ref p]/\(cV X.K H p ys\/fW X.K H p ys)/\∀l,H l=none->Q (.ref l) (upd H l (.lst ys))):=by
 refine .mk ?_;intro pins s σ H xs us Q I r h;obtain⟨p,ys,rfl,hq,q⟩:=h;obtain⟨u,rfl,rx⟩:=vals1 r;cases rx;have fin:∀(its:List Value),Vals ys its->ys.length<=sizeLine->∀(h':Heap) (c':Nat),(∀b o',s.heap.get? b=some o'->h'.get? b=some o') ->
   h'.get? s.heap.objs.size=some { cls:=.type "list",dict:=none,data:=.seq its.toArray c',slots:=#[] }->EP X pins σ Q (.ref s.heap.objs.size) { s with heap:=h' }:=fun its r' hz h' c' kp e=>
  ⟨.ref s.heap.objs.size,_,I.laid (t':=s.toks) kp (bG _) (show cN X.prog X.w _ h' _ (.lst ys) from⟨hz,its,c',r',e⟩),rfl,q _ (I.hok.fresh (bG _))⟩
 rcases hq with hq | hq
 ·obtain⟨its,r',pl,hz⟩:=I.list hq;have hlen:=r'.length;obtain⟨o,ho,hc,n,hd⟩:=pl.isList;exact call_list_seq p (.inl rfl) ho hc hd (fun h' c' kp e=>fin its r' hz h' c' kp e) (by simp only[eG] <;> omega)
 ·obtain⟨its,r',pl,hz⟩:=I.tuple hq;have hlen:=r'.length;obtain⟨o,ho,hc,n,hd⟩:=pl;exact call_list_seq p (.inr rfl) ho hc hd (fun h' c' kp e=>fin its r' hz h' c' kp e) (by simp only[eG] <;> omega)
theorem wC:du X (.type "tuple") (fun xs H Q=>∃p ys,xs=[.ref p]/\((cV X.K H p ys/\∀l,H l=none->Q (.ref l) (upd H l (.tup ys)))\/(fW X.K H p ys/\Q (.ref p) H))):=by
 refine .mk ?_;intro pins s σ H xs us Q I r h;obtain⟨p,ys,rfl,h⟩:=h;obtain⟨u,rfl,rx⟩:=vals1 r;cases rx;rcases h with⟨hq,q⟩ | ⟨hq,q⟩
 ·obtain⟨its,r',pl,hz⟩:=I.list hq;have hlen:=r'.length;refine call_tuple_list pl.isList (fun h' kp=>?_) (by simp only[eG] <;> omega)
  have I1:Inv X pins σ H { s with heap:=h' }:=I.kept (t':=s.toks) kp
  have I2:Inv X pins σ (upd H h'.objs.size (.tup ys)) { s with heap:=h'.push { cls:=.type "tuple",data:=.seq its.toArray } }:=
   I1.laid (t':=s.toks) (fun b o e=>e_ _ e) (bG _) (show cN X.prog X.w _ _ _ (.tup ys) from⟨hz,its,r',IsTup.new _ _⟩)
  exact⟨.ref h'.objs.size,_,I2,rfl,q _ (I1.hok.fresh (bG _))⟩
 ·obtain⟨its,r',pl,hz⟩:=I.tuple hq;exact call_tuple_same pl ⟨.ref p,H,I,rfl,q⟩
def Yc (K:PySem.W.Frag) (T:String) (x:V) (H:Hp):Prop:=match x with
 | .str _=>T = "str"
 | .int _=>T = "int"
 | .ref p=>(T = "list" /\ ∃xs,cV K H p xs)\/(T = "tuple" /\ ∃o,K.lookup p=some o/\o.cls=.type "tuple" /\ o.dict=none) \/
   (T = "dict" /\ ((∃kvs,H p=some (.dK kvs))\/∃kvs,H p=some (.dT kvs)))\/(T = "set" /\ ∃S n,H p=some (.set S n))
 | _=>False
theorem JM {pins:List (Addr×Obj)} {σ:St} {H:Hp} {s:Shared} {T:String} {x:V} {v:Value} (I:Inv X pins σ H s) (r:RelV x v) (ty:Yc X.K T x H) :
  s.TypeIs v T/\∀a,v=.ref a->∃ob,s.heap.get? a=some ob/\ob.dict=none:=by
 cases x with
 | str z=>
  obtain⟨t,rfl⟩:=r;cases(show T = "str" from ty);exact⟨typeIs_str s z t,fun _ e=>nomatch e⟩
 | int i=>
  obtain⟨t,rfl⟩:=r;cases(show T = "int" from ty);exact⟨typeIs_int s i t,fun _ e=>nomatch e⟩
 | ref p=>
  cases r;rcases ty with⟨rfl,xs,hq⟩ | ⟨rfl,o,hk,hc,hd⟩ | ⟨rfl,hk⟩ | ⟨rfl,S,n,hk⟩
  ·obtain⟨its,_,pl,_⟩:=I.list hq;refine⟨pl.isList.typeIs,fun a e=>?_⟩;cases e;obtain⟨o,n,e,c,hd,_⟩:=pl;exact⟨o,e,hd⟩
  ·refine⟨⟨o,I.rY p o hk,hc⟩,fun a e=>?_⟩;cases e;exact⟨o,I.rY _ o hk,hd⟩
  ·have z:∃o,s.heap.get? p=some o/\o.ExactDict:=by
    rcases hk with⟨kvs,hk⟩ | ⟨kvs,hk⟩
    ·obtain⟨_,_,_,_,o,_,_,e,ex,_⟩:=I.hok p _ hk;exact⟨o,e,ex⟩
    ·obtain⟨_,_,_,_,o,_,_,e,ex,_⟩:=I.hok p _ hk;exact⟨o,e,ex⟩
   obtain⟨o,e,ex⟩:=z;refine⟨⟨o,e,ex.1⟩,fun a e2=>?_⟩;cases e2;exact⟨o,e,ex.2.1⟩
  ·obtain⟨o,_,_,_,e,ex,_⟩:=I.hok p _ hk;refine⟨⟨o,e,ex.1⟩,fun a e2=>?_⟩;cases e2;exact⟨o,e,ex.2.1⟩
 | _=>exact False.elim ty
def ZK (K:PySem.W.Frag) (T:String) (r:V->List V->Hp->VK->Prop) (to:TE):TE:=fun σ H Q=>to σ H fun x H1=>Yc K T x H1/\r x [] H1 Q
def ZL (K:PySem.W.Frag) (T:String) (r:V->List V->Hp->VK->Prop) (to:TE) (t:TA):TE:=fun σ H Q=>to σ H fun x H1=>Yc K T x H1/\t σ H1 fun xs H2=>r x xs H2 Q
variable {o e:Expr} {es:List Expr} {to:TE} {t:TA} {name:Str} {apos cpos:Pos} {T id:String} {r:V->List V->Hp->VK->Prop}
theorem Wz (pa:PlainAttrs T) (slot:Slot T name id) (hty:typeOf (.builtin id)=pure (.type "method_descriptor")) (hm:Zf X id r) (ho:PE X o to) (ha:PA X (e::es) t)
  (hbase:attributeBase o name X.env (eval o X.env)=eval o X.env:=by rfl)
  (hfew:((backTo cpos (starEach (e::es) X.env)).all (fun x=>!x.1)&&(backToKw cpos (keywordEach [] X.env)).all (fun x=>x.1.isSome)
   && decide ((e::es).length+([]:List Keyword).length+(if([]:List Keyword).isEmpty then 0 else 1)<30))=true:=by rfl)
  (hline:(apos.endLine==cpos.line)=true:=by rfl) (hs:starEach (e::es) X.env=(false,eval e X.env)::starEach es X.env:=by rfl) (hplain:(backTo cpos (starEach es X.env)).any (·.1)=false:=by rfl) :
  PE X (.Call (.Attribute o name apos) (e::es) [] cpos) (ZL X.K T r to t):=by
 refine .mk ?_;intro pins s σ H Q I h;refine wpAny_Call_method_late hbase hfew hline rfl (cz (ho pins s σ H _ I h) fun v s1 qx=>?_);obtain⟨x,H1,I1,r1,ty,q1⟩:=qx;obtain⟨h1,h2⟩:=JM I1 r1 ty;refine⟨T,id,pa,slot,hty,h1,h2,?_⟩;have hA:=ha cpos pins s1 σ H1 _ I1 q1;rw[hs] at hA ⊢;refine Calls.callWith_builtin (by show(false || (backTo cpos (starEach es X.env)).any (·.1))=false; rw[hplain] <;> rfl) (Calls.evalArgs_plain ?_)
 exact cz hA fun us s2 ⟨vs,H2,I2,r2,q2⟩=>hm pins s2 σ H2 x vs v us Q I2 r1 r2 q2
end
def MtM (X:Cx) (id:String) (r:V->List V->Hp->VK->Prop):Prop:=
 ∀(pins:List (Addr×Obj)) (s:Shared) (σ:St) (H:Hp) (x:V) (xs:List V) (v:Value) (us:List Value) (Q:VK),Inv X pins σ H s->RelV x v->Vals xs us->r x xs H Q ->
  wpAny (model X.prog X.w) X.A (call (.builtin id) (v::us)) (EP X pins σ Q) X.xe s
theorem Vals.un {x:V} {xs:List V} {us:List Value} (h:Vals (x::xs) us):∃u r,us=u::r/\RelV x u/\Vals xs r:=by
 cases h with
 | cons r t=>exact⟨_,_,rfl,r,t⟩
theorem Vals.no {us:List Value} (h:Vals [] us):us=[]:=by
 cases h;rfl
theorem Vals.one {x:V} {us:List Value} (h:Vals [x] us):∃u,us=[u]/\RelV x u:=by
 obtain⟨u,r,rfl,h1,h⟩:=h.un;cases h.no;exact⟨u,rfl,h1⟩
theorem Vals.two {x y:V} {us:List Value} (h:Vals [x,y] us):∃u v,us=[u,v]/\RelV x u/\RelV y v:=by
 obtain⟨u,r,rfl,h1,h⟩:=h.un;obtain⟨v,rfl,h2⟩:=h.one;exact⟨u,v,rfl,h1,h2⟩
section
variable {X:Cx} {pins:List (Addr×Obj)} {σ:St} {H:Hp} {s:Shared} {l b:Addr} {xs ys zs:List V}
theorem Inv.W7 {its its':List Value} {n:Nat} {f:Array Value->Array Value} {t':Nat} (I:Inv X pins σ H s) (hH:H l=some (.lst xs))
  (e:s.heap.get? l=some { cls:=.type "list",data:=.seq its.toArray n }) (hf:f its.toArray=its'.toArray) (hv:Vals ys its') (hz:ys.length<=sizeLine) :
  Inv X pins σ (upd H l (.lst ys)) { s with heap:=s.heap.update l (Obj.mapSeq f),toks:=t' }:=by
 have q:=PySem.IsL.update e f;rw[hf] at q;refine I.write (x:=l) (e:=l) (by rw[hH]; exact trivial) (.inl rfl) (fun b' u hb hu=>(DN s.heap (Obj.mapSeq f) (Ne.symm hb)).trans hu) ⟨_,q⟩ ?_
 exact⟨hz,its',_,hv,q⟩
theorem Inv.aal {its:List Value} {t':Nat} (I:Inv X pins σ H s) (hv:Vals ys its) (hz:ys.length<=sizeLine) :
  Inv X pins σ (upd H s.heap.objs.size (.lst ys)) { s with heap:=s.heap.push { cls:=.type "list",data:=.seq its.toArray },toks:=t' }:=
 I.laid (fun _ _ q=>e_ _ q) (bG _) ⟨hz,its,0,hv,dN _ rfl⟩
theorem Inv.fresh (I:Inv X pins σ H s):H s.heap.objs.size=none:=I.hok.fresh (bG _)
theorem Inv.S_ (I:Inv X pins σ H s) (hH:H l=some (.lst xs)):xs.length<=sizeLine/\∃(its:List Value) (n:Nat),Vals xs its/\xs.length=its.length/\s.heap.get? l=some { cls:=.type "list",data:=.seq its.toArray n }:=by
 obtain⟨z,its,n,r,e⟩:=I.hok l _ hH;exact⟨z,its,n,r,r.length,e⟩
theorem Lb {n:Nat} (h:n<=sizeLine):Builtin.List.listTooLong n=false:=by
 unfold Builtin.List.listTooLong;exact lG (by omega)
end
section
variable {X:Cx}
def Ge:V->List V->Hp->VK->Prop:=fun x vs H Q=>∃l xs y,x=.ref l/\vs=[y]/\H l=some (.lst xs)/\xs.length<sizeLine/\Q .non (upd H l (.lst (xs++[y])))
theorem dU:MtM X "list.append" Ge:=by
 intro pins s σ H x vs v us Q I rx rv h;obtain⟨l,xs,y,rfl,rfl,hH,hz,q⟩:=h;cases rx;obtain⟨u,rfl,ru⟩:=rv.one;obtain⟨z,its,n,r,hl,e⟩:=I.S_ hH;refine call_meets F.slot_list_append ⟨_,e,rfl⟩ F.entry_list_append (F.args_list_append_2 _ _) (PySem.list_append l its.toArray n u (by rw[eG]; omega)) ⟨e,?_⟩
 refine⟨.non,_,I.W7 (its':=its++[u]) hH e (by simp) (r.append (.cons ru .nil)) ?_,rfl,q⟩
 rw[dh,List.length_singleton];omega
def Oh:V->List V->Hp->VK->Prop:=fun x vs H Q=>∃l b xs zs,x=.ref l/\vs=[.ref b]/\H l=some (.lst xs)/\H b=some (.lst zs)/\xs.length+zs.length<=sizeLine/\Q .non (upd H l (.lst (xs++zs)))
theorem Im:MtM X "list.extend" Oh:=by
 intro pins s σ H x vs v us Q I rx rv h;obtain⟨l,b,xs,zs,rfl,rfl,hH,hB,hz,q⟩:=h;cases rx;obtain⟨u,rfl,ru⟩:=rv.one;cases ru;obtain⟨z,its,n,r,hl,e⟩:=I.S_ hH;obtain⟨z2,its2,n2,r2,hl2,e2⟩:=I.S_ hB;have hsz:its.toArray.size+its2.toArray.size<=sizeLine:=by rw[eG,eG]; omega
 have Xg:¬(!its.toArray.isEmpty&&Builtin.List.listTooLong (its.toArray.size+its2.toArray.size))=true:=by
  rw[Lb hsz,Bool.and_false];exact jw
 refine call_meets F.slot_list_extend ⟨_,e,rfl⟩ F.entry_list_extend (F.args_list_extend_2 _ _)
  (AutoSeq1.list_extend_list_list_0 l its.toArray n b its2.toArray n2 Xg (by rw[eG]; omega) (by omega)) ⟨e,e2,?_⟩
 refine⟨.non,_,I.W7 (its':=its++its2) hH e (by simp) (r.append r2) ?_,rfl,q⟩
 rw[dh];omega
end
section
variable {prog:Program} {w:World} {A:Around} {E:Value->Shared->Prop} {s:Shared}
end
section
variable {X:Cx}
end
end L2
namespace Att
open PySem PySem.W PySem.Calls PyProof.Rows
theorem rZ {P:Params} {h:Heap}:∀(ns:List Int) (vs:List Value),WellAll P h vs (ns.map WData.int)->IntsAre vs ns:=by
 intro ns
 induction ns with
 | nil=>
  intro vs w;rw[List.map_nil] at w;cases w;exact .nil
 | cons n ns ih=>
  intro vs w;rw[nU] at w;cases w with
  | cons a b=>
   cases a;exact .cons _ _ (ih _ b)
theorem Hn {l:OpenLaw} {n:Nat} (hn:l.most=some n) {P:Params} {h:Heap} {args:List WData} {vals:List Value}
  (hpre:l.row.toRowW.claim.pre args=true) (hwl:WellAll P h vals args) :
  ∃a vs ns,vals=[Value.ref a]/\args=[WData.list (ns.map WData.int)]/\h.get? a=some { cls:=.type "list",data:=.seq vs.toArray }/\IntsAre vs ns/\ns.length<=n:=by
 have hsh:WShape.hasAll [] args [.list .int]=true:=(pre_splitW hpre).1;have hc:l.pre.holds [] { args:=args }=true:=(pre_splitW hpre).2;obtain⟨d,r,rfl,h1,h2⟩:=hasAllW_cons hsh;obtain rfl:=hasAllW_nil h2;obtain⟨xs,rfl,h3⟩:=hasW_list h1;obtain⟨ns,rfl⟩:=items_int h3
 have hlen:ns.length<=n:=by
  unfold OpenLaw.pre at hc
  have h4:(WTm.not (.lt (.lit (.int (n:Int))) (.len (.arg 0)))).holds [] { args:=[.list (ns.map .int)] }=true:=by
   have h4:=(holds_andW hc).1;rw[hn] at h4;exact h4
  have h5:=condW_of h4 (w_not (w_lt w_lit (w_len_list (w_arg rfl))));rw[cT] at h5;refine Nat.le_of_not_lt fun q=>?_;have q':(n:Int)<((ns.length:Nat):Int):=by omega
  first
   | (rw[nW q'] at h5; exact absurd h5 (by decide))
   | (simp at h5; omega)
 cases hwl with
 | cons w1 w2=>
  cases w2;cases w1 with
  | list ho hall=>exact⟨_,_,ns,rfl,rfl,ho,rZ ns _ hall,hlen⟩
theorem HJ (l:OpenLaw) (args:List WData):l.row.toRowW.claim.post args (.bool true) args=true:=
 postW_of (r:=l.row.toRowW) (X:=(true==true))
  (show WShape.has [] (.bool true) .bool=true by first | rfl | decide | simp[WShape.has,WShape.arms,WShape.armsAll])
  (show(WTm.eq .res (.lit (.bool true))).value [] { args:=args,res:=some (.bool true),after:=args }=some (.bool (true==true)) from w_eq_bool (w_res rfl) w_lit) rfl
theorem Cj {l:OpenLaw} {n:Nat} {q:Program} {loose:List Str} {XP:(Str->Option Value)->Heap->Prop} {YP:World->Heap->Prop} {d:DefRec}
  (hn:l.most=some n) (hdf:d.params.defaults=[])
  (call:∀(w:World) (s₀ s₁:Shared) (mg mb:Str->Option Value) (fa:Addr) (o:Obj) (pm cd doc:Value) (a:Addr) (vs:List Value) (ns:List Int),
   Ground q loose [] XP w s₀ mg mb s₁.heap->YP w s₁.heap ->
   s₁.heap.get? fa=some o->o.data=.func (docDef d.name d.params d.body d.scope pm cd doc)->s₁.heap.CodeRec cd d.name->mg d.name=some (.ref fa) ->
   s₁.heap.get? a=some { cls:=.type "list",data:=.seq vs.toArray }->IntsAre vs ns->ns.length<=n->s₁.gens = #[] ->
   codeAny (model l.prog w) callerA (.call (.ref fa) ⟨[.ref a],[]⟩) (fun r s'=>r=.ok (.ret (.bool true))/\OldK s₁.heap s'.heap/\s'.os=s₁.os/\AllBare s'.gens) s₁) :
  WalkO q loose XP YP l.row.toRowW d [] (fun f vs=>PySem.call f vs):=by
 intro w s₀ s₁ mg mb G Y fa o pm cd doc dV kV ho hd hcd hD hmg hg args vals as hpre hlay hrd hwl hlo;obtain rfl:dV=.none:=Dflts.none hD hdf;obtain rfl:kV=.none:=Dflts.noKw hD;obtain⟨a,vs,ns,rfl,rfl,hobj,hints,hlen⟩:=Hn hn hpre hwl;refine enter_call (codeAny_mono (call w s₀ s₁ mg mb fa o pm cd doc a vs ns G Y ho (fd_plain hd) hcd hmg hobj hints hlen hg) fun r s' hq=>?_);obtain⟨rfl,h2,h3,h4⟩:=hq;exact⟨.inl ⟨.bool true,.bool true,[],rfl,fun _=>rfl,.bool true,HJ l _,fun _=>⟨List.Pairwise.nil,fun _ hm=>(nomatch hm)⟩⟩,h2,h3,h4⟩
section
variable {prog:Program} {w:World} {A:Around} {E:Value->Shared->Prop} {s:Shared} {K:Frag}
def ledger (h:Heap) (L d:Addr):List (Addr×Obj):=(List.range h.objs.size).filterMap fun a=>if a=L\/a=d then none else(h.get? a).map fun o=>(a,o)
end
end Att
namespace L2
open PySem PySem.Spec PyProof.Rows
theorem wJ:∀{vs:List Value} {ns:List Int},IntsAre vs ns->Vals (ns.map V.int) vs
 | _,_,.nil=>.nil
 | _,_,.cons n t h=>.cons ⟨t,rfl⟩ (wJ h)
def Only (H:Hp):Prop:=∀b,H b=none\/∃o xs,H b=some (.rG o (.lst xs))
theorem Lk {P:Program} {w:World} {K:PySem.W.Frag} {mg mb:Str->Option Value} {CX:G8} {k:Nat} {fa a:Addr} {fd:FuncData} {x:Str} {sp:Sp} {s₁:Shared} {vs:List Value} {ns:List Int}
  (KX:K.In s₁.heap) (hns:s₁.heap.Ns mainGlobals mg) (hb:s₁.heap.Ns builtinsNs mb) (hbb:∀x:Str,x ≠ "__name__" -> mb x=bootBuiltins x) (hlim:s₁.heap.NoLimit) (hg:s₁.gens = #[])
  (ha:s₁.heap.get? a=some { cls:=.type "list",data:=.seq vs.toArray }) (hi:IntsAre vs ns) (hl:ns.length<=sizeLine) (hr:dZ k callerA)
  (F:∀base:Heap,K.In base->base.Ns mainGlobals mg->bD P w K mg base CX k fa fd [x] sp) (hbind:∀(s:Shared) (u:Value),BindsTo s fd ⟨[u],[]⟩ [(x,u)])
  (hsp:∀H:Hp,Only H->cV K H a (ns.map V.int)->sp [.ref a] H (fun v _=>v=.bl true) fun _ _ _=>False)
  (hCX:∀H e s',CX [] H s₁ (fun _ _ _=>False) e s'->False) :
  codeAny (model P w) callerA (.call (.ref fa) ⟨[.ref a],[]⟩) (fun r s'=>r=.ok (.ret (.bool true))/\OldK s₁.heap s'.heap/\s'.os=s₁.os/\AllBare s'.gens) s₁:=by
 have rv:=wJ hi;have lenV:=hi.length;have core:∀H:Hp,Only H->cV K H a (ns.map V.int)->mq P w H s₁.heap->(∀b,H b≠none->b=a)->(H a≠none->K.lookup a=none) ->
   codeAny (model P w) callerA (.call (.ref fa) ⟨[.ref a],[]⟩) (fun r s'=>r=.ok (.ret (.bool true))/\OldK s₁.heap s'.heap/\s'.os=s₁.os/\AllBare s'.gens) s₁:=by
  intro H hO hS hok hA hK;have G5:∀{b:Addr} {o:Obj},s₁.heap.get? b=some o->H b=none->(zf s₁.heap H).get? b=some o:=fun e n=>Lr e n
  have WW:∀{b:Addr} {o:Obj} {es:Array DictEntry} {ep:Nat},s₁.heap.get? b=some o->o.data=.dict es ep->H b=none:=fun {b o es ep} e d=>by
   cases q:H b with
   | none=>rfl
   | some u=>
    have e':b=a:=hA b (by rw[q]; simp)
    subst e';rw[ha] at e; cases e;have d':Data.seq vs.toArray _=Data.dict es ep:=d;cases d'
  have Yr:∀{b:Addr} {m:Str->Option Value},s₁.heap.Ns b m->(zf s₁.heap H).Ns b m:=fun {b m} ⟨o,es,ep,e,d,r⟩=>⟨o,es,ep,G5 e (WW e d),d,r⟩
  have hKb:K.In (zf s₁.heap H):=fun b o e=>G5 (KX b o e) (by
   cases q:H b with
   | none=>rfl
   | some u=>
    have e':b=a:=hA b (by rw[q]; simp)
    subst e'
    rw[hK (by rw[q]; simp)] at e; cases e)
  have hM:Mod K mg (zf s₁.heap H):=⟨hKb,Yr hns,⟨mb,Yr hb,hbb⟩,let ⟨mc,h1,h2⟩:=hlim; ⟨mc,Yr h1,h2⟩⟩;have e0:Ff P w K mg (zf s₁.heap H) callerA [] s₁ H:=⟨rfl,hM,fun b o e=>Pa e,Nat.le_of_eq (IV _ _),trivial,fun b hb=>absurd (show b∈([]:List Addr) from hb) (by simp),hok,.of_eq hg⟩
  refine codeAny_mono ((F _ hKb (Yr hns)).run callerA [] s₁ H ⟨[.ref a],[]⟩ [.ref a] [.ref a] _ _ hr e0 (hbind s₁ (.ref a)) (.cons rfl .nil) (hsp H hO hS)) fun r s' h=>?_;cases r with
  | error e=>exact(hCX H e s' h).elim
  | ok fl=>
   cases fl with
   | next=>exact False.elim h
   | brk=>exact False.elim h
   | cont=>exact False.elim h
   | ret u=>
    obtain⟨v,H',os,bare,un,hok',r',q⟩:=h;have q':v=.bl true:=q;subst q';obtain rfl:u=Value.bool true:=r';refine⟨rfl,OldK.of_keep fun b o e=>?_,os,bare⟩;cases q:H b with
    | none=>exact un.keep b o e q (by intro z; exact absurd (show b∈([]:List Addr) from z) (by simp)) (by simp)
    | some u=>
     rcases hO b with z | ⟨ob,xs,z⟩
     ·rw[q] at z; cases z
     ·have z2:=un.vf b ob _ z;obtain⟨e1,_⟩:=hok b _ z;obtain⟨e2,_⟩:=hok' b _ z2;rw[e] at e1; cases e1;exact e2
 cases hk:K.lookup a with
 | some o=>
  have e:=KX a o hk;rw[ha] at e;cases e;refine core (fun _=>none) (fun _=>.inl rfl) (.inr ⟨_,vs.toArray,_,hk,rfl,rfl,rfl,by rw[eG,lenV]; exact hl,by simpa using rv⟩) (fun b u z=>by have z':(none:Option HO)=some u:=z; cases z') (fun b z=>absurd rfl z) fun z=>absurd rfl z
 | none=>
  refine core (fun b=>if b=a then some (.rG { cls:=.type "list",data:=.seq vs.toArray } (.lst (ns.map V.int))) else none) (fun b=>?_) (.inl (.inr ⟨{ cls:=.type "list",data:=.seq vs.toArray },a_ rfl⟩)) (fun b u z=>?_) (fun b z=>?_) fun _=>hk
  ·by_cases hb:b=a
   ·exact .inr ⟨_,_,a_ hb⟩
   ·exact .inl (aV hb)
  ·by_cases hb:b=a
   ·have z':=(a_ hb).symm.trans z;cases z';subst hb;exact⟨ha,by rw[cT]; exact hl,vs,_,rv,ha⟩
   ·have z':=(aV hb).symm.trans z;cases z'
  ·by_cases hb:b=a
   ·exact hb
   ·exact absurd (aV hb) z
abbrev KOf {K:PySem.W.Frag} {h:Heap} (_:K.In h):PySem.W.Frag:=K
theorem Nk {l:PySem.W.OpenLaw} {n k:Nat} {q:Program} {loose:List Str} {XP:(Str->Option Value)->Heap->Prop} {YP:World->Heap->Prop} {d:DefRec} {K:Params->PySem.W.Frag} {CX:World->G8} {sp:World->Sp} {x:Str}
  (hn:l.most=some n) (hn2:n<=sizeLine) (hdf:d.params.defaults=[]) (hr:dZ k callerA)
  (hY:∀(w:World) (h:Heap),YP w h->(K w.params).In h)
  (F:∀(w:World) (mg:Str->Option Value) (fa:Addr) (h:Heap),(K w.params).In h->h.Ns mainGlobals mg->mg d.name=some (.ref fa) ->
   ∃fd:FuncData,(∀(s:Shared) (u:Value),BindsTo s fd ⟨[u],[]⟩ [(x,u)]) /\
    ∀base:Heap,(K w.params).In base->base.Ns mainGlobals mg->bD l.prog w (K w.params) mg base (CX w) k fa fd [x] (sp w))
  (hsp:∀(w:World) (H:Hp) (a:Addr) (ns:List Int),ns.length<=n->Only H->cV (K w.params) H a (ns.map V.int)->sp w [.ref a] H (fun v _=>v=.bl true) fun _ _ _=>False)
  (hCX:∀(w:World) (H:Hp) (s:Shared) (e:Value) (s':Shared),CX w [] H s (fun _ _ _=>False) e s'->False) :
  PySem.W.WalkO q loose XP YP l.row.toRowW d [] (fun f vs=>PySem.call f vs):=by
 refine Att.Cj hn hdf fun w s₀ s₁ mg mb fa o pm cd doc a vs ns G Y ho hd hcd hmg hobj hints hlen hg=>?_;have KX:=hY w _ Y;obtain⟨fd,hb,hF⟩:=F w mg fa _ KX G.T.g hmg;exact Lk KX G.T.g G.T.b G.T.builtins G.T.nolimit hg hobj hints (kj hlen hn2) hr hF hb (fun H hO hS=>hsp w H a ns hlen hO hS) fun H e s'=>hCX w H s₁ e s'
end L2
namespace L2
open PySem PySem.Spec PyProof.Rows
def inClass (s:Stmt) (j:Nat):Stmt:=match s with
 | .ClassDef _ _ _ body _ _ _ _ _ _ _=>body.getD j (.Pass ⟨0,0,0,0⟩)
 | _=>.Pass ⟨0,0,0,0⟩
def bN (s:Stmt):Arguments:=match s with
 | .FunctionDef _ a _ _ _ _ _ _ _ _=>a
 | _=>{ posonlyargs:=[],args:=[],vararg:=none,kwonlyargs:=[],kw_defaults:=[],kwarg:=none,defaults:=[] }
def bI (s:Stmt):List Stmt:=match s with
 | .FunctionDef _ _ b _ _ _ _ _ _ _=>b
 | _=>[]
def aC (s:Stmt):Scope:=match s with
 | .FunctionDef _ _ _ _ _ _ sc _ _ _=>sc
 | _=>{ kind:=.function,names:=[],isGenerator:=false,isCoroutine:=false }
abbrev fY:G8:=fun _ _ _ _ _ _=>False
abbrev E0:XK:=fun _ _ _=>False
theorem w6 {X:Cx}:Passes fY X E0:=fun _ _ _ _ _ _ _ h=>h.elim
structure jh (K:PySem.W.Frag) (x qual:Str) (st:Stmt) (f:Addr) (fd:FuncData):Prop where
 ex:∃(oc:Value) (od:Option Addr) (kV doc pm:Value) (an:Option Addr) (cdv ct:Value) (osl:Array (Option Value)),
  fd=PySem.W.fnOf x qual (bN st) (bI st) (aC st) .none kV doc pm an cdv ct/\K.lookup f=some ⟨oc,od,.func fd,osl⟩/\PySem.W.codeIn K cdv qual=true
 kp:PySem.W.keepIn K (.ref f)=true
section
variable {P:Program} {w:World} {K:PySem.W.Frag} {mg:Str->Option Value} {base:Heap}
theorem jh.ok {x qual:Str} {st:Stmt} {f:Addr} {fd:FuncData} {N ps:List Str} {k:Nat} {sp:Sp} (F:jh K x qual st f fd) (S:aR N ps (aC st)) (len:∀vs H Q E,sp vs H Q E->vs.length=ps.length)
  (hbody:∀(cdv:Value) (A:Around) (outer:List Env) (s:Shared) (H:Hp) (vs:List V) (Q:VK) (E:XK),dZ k (A.deeper (envOfC qual (aC st) s.heap.objs.size f cdv))->sp vs H Q E ->
   ∃t,Cq (vo fY P w K mg base N qual (aC st) f cdv A outer s H E).U7 (bI st) t/\t { nx:=fun _ H'=>Q .non H',rt:=Q } (start N vs) H):bD P w K mg base fY (k+1) f fd ps sp:=by
 obtain⟨oc,od,kV,doc,pm,an,cdv,ct,osl,rfl,lk,hcd⟩:=F.ex;refine Q7 lk hcd S len fun A outer s H vs Q E hr hsp=>?_;obtain⟨t,h,q⟩:=hbody cdv A outer s H vs Q E hr hsp;exact⟨t,h.U7,q⟩
theorem jh.binds {x qual:Str} {st:Stmt} {f:Addr} {fd:FuncData} {ps:List Str} (F:jh K x qual st f fd)
  (h:∀(kV doc pm:Value) (an:Option Addr) (cdv ct:Value) (us:List Value),us.length=ps.length->bindArgs (PySem.W.fnOf x qual (bN st) (bI st) (aC st) .none kV doc pm an cdv ct) ⟨us,[]⟩=pure (ps.zip us)):Binds K fd ps []:=by
 obtain⟨oc,od,kV,doc,pm,an,cdv,ct,osl,rfl,lk,hcd⟩:=F.ex;exact .all (h kV doc pm an cdv ct)
theorem Em {x qual:Str} {st:Stmt} {f:Addr} {oc:Value} {od an:Option Addr} {osl:Array (Option Value)} {kV doc pm cdv ct:Value} (l:K.lookup f=some ⟨oc,od,.func (PySem.W.fnOf x qual (bN st) (bI st) (aC st) .none kV doc pm an cdv ct),osl⟩)
  (c:PySem.W.codeIn K cdv qual=true) (k:PySem.W.keepIn K (.ref f)=true):jh K x qual st f (PySem.W.fnOf x qual (bN st) (bI st) (aC st) .none kV doc pm an cdv ct):=⟨⟨oc,od,kV,doc,pm,an,cdv,ct,osl,rfl,l,c⟩,k⟩
end
theorem aW {n:Nat} (h:n<=1000):n<sizeLine:=Nat.lt_of_le_of_lt h (by decide)
section
variable {X:Cx}
theorem pv (i:Nat) {x:Str} {pos:Pos} (hN:X.N[i]?=some x:=by rfl) (hv:Y9 X.env.scope x:=by first | exact Or.inl rfl | exact Or.inr (Or.inl rfl) | exact Or.inr (Or.inr rfl)) (hd:(x==("__debug__" : Str))=false:=by decide)
  (hcd:(x==("__classdict__" : Str))=false:=by decide):PE X (.Name x pos) (rM i):=Sd hN hv hd hcd
end
theorem Xd {c A B:Prop} [Decidable c] (h1:c->A) (h2:¬c->B):if c then A else B:=by
 by_cases h:c
 ·rw[a_ h];exact h1 h
 ·rw[aV h];exact h2 h
def aL (H H':Hp):Prop:=∀b o,H b=some o->H' b=some o
theorem aL.refl (H:Hp):aL H H:=fun _ _ h=>h
theorem aL.trans {H H1 H2:Hp} (a:aL H H1) (b:aL H1 H2):aL H H2:=fun c o h=>b c o (a c o h)
section
variable {κ:Type} [DecidableEq κ]
def oW (kvs:List (κ×V)) (k:κ):Option V:=(kvs.find? fun kv=>decide (kv.1=k)).map (·.2)
def putK (kvs:List (κ×V)) (k:κ) (v:V):List (κ×V):=
 if(kvs.any fun kv=>decide (kv.1=k))=true then kvs.map (fun kv=>if kv.1=k then(kv.1,v) else kv) else kvs++[(k,v)]
theorem oV {p:κ×V} {r:List (κ×V)} {k:κ} (e:p.1=k):oW (p::r) k=some p.2:=by simp[oW,Hv,e]
theorem tM {p:κ×V} {r:List (κ×V)} {k:κ} (e:¬p.1=k):oW (p::r) k=oW r k:=by simp[oW,Hv,e]
theorem Af (k:κ):∀kvs:List (κ×V),(kvs.any fun kv=>decide (kv.1=k))=(oW kvs k).isSome
 | []=>rfl
 | p::r=>by
  rw[Dr];by_cases e:p.1=k
  ·simp only[oV e,nW e,Bool.true_or,Option.isSome_some]
  ·rw[tM e,lG e,Bool.false_or]; exact Af k r
theorem gK (kvs:List (κ×V)) (k:κ) (v:V):(putK kvs k v).length<=kvs.length+1:=by
 unfold putK;split
 ·rw[cT]; omega
 ·rw[dh,ju,vO]; omega
theorem m8.Iz {o:Option V} {u:Option Value} (r:m8 o u):o.isSome=u.isSome:=by
 cases o with
 | none=>cases u with
  | none=>rfl
  | some _=>exact(show False from r).elim
 | some _=>cases u with
  | none=>exact(show False from r).elim
  | some _=>rfl
theorem KV.val {kvs:List (κ×V)} {vs:List (κ×Value)} (r:KV kvs vs) (k:κ):m8 (oW kvs k) (valueAt vs k):=by
 unfold KV at r
 induction r with
 | nil=>exact True.intro
 | @cons p q ps qs h t ih=>
  obtain⟨h1,h2⟩:=h;by_cases e:p.1=k
  ·have e':q.1=k:=h1.symm.trans e;have b:valueAt (q::qs) k=some q.2:=by simp[valueAt,Hv,e']
   rw[oV e,b]; exact h2
  ·have e':¬q.1=k:=fun z=>e (h1.trans z);have b:valueAt (q::qs) k=valueAt qs k:=by simp[valueAt,Hv,e']
   rw[tM e,b]; exact ih
theorem KV.any {kvs:List (κ×V)} {vs:List (κ×Value)} (r:KV kvs vs) (k:κ):(kvs.any fun kv=>decide (kv.1=k))=vs.any fun kv=>decide (kv.1=k):=by
 unfold KV at r
 induction r with
 | nil=>rfl
 | cons h t ih=>rw[Dr,Dr,ih,h.1]
theorem KV.repl {kvs:List (κ×V)} {vs:List (κ×Value)} (r:KV kvs vs) (k:κ) {y:V} {u:Value} (ry:RelV y u) :
  KV (kvs.map fun kv=>if kv.1=k then(kv.1,y) else kv) (vs.map fun kv=>if kv.1=k then(kv.1,u) else kv):=by
 unfold KV at r ⊢
 induction r with
 | nil=>exact .nil
 | @cons p q ps qs h t ih=>
  rw[nU,nU];refine .cons ?_ ih;obtain⟨h1,h2⟩:=h;by_cases e:p.1=k
  ·rw[a_ e,a_ (h1.symm.trans e)]; exact⟨h1,ry⟩
  ·rw[aV e,aV (fun z=>e (h1.trans z))]; exact⟨h1,h2⟩
theorem KV.put {kvs:List (κ×V)} {vs:List (κ×Value)} (r:KV kvs vs) (k:κ) {y:V} {u:Value} (ry:RelV y u):KV (putK kvs k y) (stored vs k u):=by
 unfold putK stored;rw[r.any k];by_cases e:(vs.any fun kv=>decide (kv.1=k))=true
 ·rw[a_ e,a_ e]; exact r.repl k ry
 ·rw[aV e,aV e]; exact Paired.snoc r ⟨rfl,ry⟩
theorem KV.length {kvs:List (κ×V)} {vs:List (κ×Value)} (r:KV kvs vs):kvs.length=vs.length:=Paired.length r
end
theorem Bx {P:Program} {w:World} {k:Key} {u:Value} (r:RelV (kV k) u):(dg P w).is k u=true:=by
 cases k with
 | inl i=>obtain⟨t,e⟩:=(show ∃t,u=Value.int i t from r); subst e; exact Bw P w i t
 | inr x=>obtain⟨t,e⟩:=(show ∃t,u=Value.str x t from r); subst e; exact Bv P w x t
theorem xj {P:Program} {w:World}:∀{ks:List Key} {us:List Value},Vals (ks.map kV) us->ItemsAre (dg P w) ks us
 | [],_,r=>by rw[List.map_nil] at r; cases r; exact .nil
 | k::ks,_,r=>by
  rw[nU] at r;cases r with
  | cons h t=>exact .cons (Bx h) (xj t)
abbrev KT (H:Hp):List (List Key×V)->List (List Key×Addr×Value)->Prop:=Paired fun p q=>p.1=q.1/\H q.2.1=some (.tup (p.1.map kV))/\RelV p.2 q.2.2
theorem KT.val {H:Hp} {kvs:List (List Key×V)} {xs:List (List Key×Addr×Value)} (r:KT H kvs xs) (k:List Key):m8 (oW kvs k) ((atKey xs k).map (·.2)):=by
 induction r with
 | nil=>exact True.intro
 | @cons p q ps qs h t ih=>
  obtain⟨h1,_,h2⟩:=h;by_cases e:p.1=k
  ·have e':q.1=k:=h1.symm.trans e;have b:atKey (q::qs) k=some q.2:=by simp[atKey,Hv,e']
   rw[oV e,b]; exact h2
  ·have e':¬q.1=k:=fun z=>e (h1.trans z);have b:atKey (q::qs) k=atKey qs k:=by simp[atKey,Hv,e']
   rw[tM e,b]; exact ih
theorem KT.repl {H:Hp} {kvs:List (List Key×V)} {xs:List (List Key×Addr×Value)} (r:KT H kvs xs) (k:List Key) {y:V} {u:Value} (ry:RelV y u) :
  KT H (kvs.map fun kv=>if kv.1=k then(kv.1,y) else kv) (xs.map (putAt k u)):=by
 induction r with
 | nil=>exact .nil
 | @cons p q ps qs h t ih=>
  rw[nU,nU];refine .cons ?_ ih;obtain⟨h1,h2,h3⟩:=h;unfold putAt;by_cases e:p.1=k
  ·rw[a_ e,a_ (h1.symm.trans e)]; exact⟨h1,h2,ry⟩
  ·rw[aV e,aV (fun z=>e (h1.trans z))]; exact⟨h1,h2,h3⟩
theorem KT.put {H:Hp} {kvs:List (List Key×V)} {xs:List (List Key×Addr×Value)} (r:KT H kvs xs) (k:List Key) {b:Addr} {y:V} {u:Value} (hb:H b=some (.tup (k.map kV))) (ry:RelV y u) :
  KT H (putK kvs k y) (storedH xs k b u):=by
 have e:(kvs.any fun kv=>decide (kv.1=k))=(atKey xs k).isSome:=by
  rw[Af,(r.val k).Iz,Option.isSome_map]
 unfold putK storedH;rw[e];by_cases q:(atKey xs k).isSome=true
 ·rw[a_ q,a_ q]; exact r.repl k ry
 ·rw[aV q,aV q]; exact Paired.snoc r ⟨rfl,hb,ry⟩
theorem KT.keeps {H H':Hp} {kvs:List (List Key×V)} {xs:List (List Key×Addr×Value)} (r:KT H kvs xs) (ht:∀b ys,H b=some (.tup ys)->H' b=some (.tup ys)):KT H' kvs xs:=
 Paired.S7 r fun _ _ z=>⟨z.1,ht _ _ z.2.1,z.2.2⟩
section
variable {P:Program} {w:World} {H:Hp} {h:Heap} {a:Addr}
theorem QW {u:HO} (ok:mq P w H h) (e:Rd H a u):cN P w H h a u:=e.ok ok
theorem GC {kvs:List (Key×V)} (ok:mq P w H h) (e:Rd H a (.dK kvs)):kvs.length<=sizeLine/\(a==sysModules)=false/\∃vs,KV kvs vs/\h.DictOf (dg P w) a vs:=
 show cN P w H h a (.dK kvs) from QW ok e
theorem GD {kvs:List (Key×V)} (ok:mq P w H h) (e:H a=some (.dK kvs)):kvs.length<=sizeLine/\(a==sysModules)=false/\∃vs,KV kvs vs/\h.DictOf (dg P w) a vs:=GC ok (.inl e)
theorem Eh {ks:List Key} (ok:mq P w H h) (e:H a=some (.tup (ks.map kV))):(tupleKind (dg P w)).is h ks a:=by
 obtain⟨_,its,r,o,h1,h2,n,h3⟩:=(show cN P w H h a (.tup (ks.map kV)) from ok a _ e);exact⟨o,its.toArray,n,h1,h2,h3,by simpa using xj r⟩
theorem Ma {kvs:List (List Key×V)} (ok:mq P w H h) (e:Rd H a (.dT kvs)):kvs.length<=sizeLine/\(a==sysModules)=false /\
  ∃xs,KT H kvs xs/\h.DictOfH (tupleKind (dg P w)) a xs:=by
 obtain⟨z,y,xs,r,o,es,ep,h1,h2,h3,h4,h5⟩:=(show cN P w H h a (.dT kvs) from QW ok e);refine⟨z,y,xs,r,o,es,ep,h1,h2,h3,h4,fun x hx=>?_,h5⟩
 have all:∀{l:List (List Key×V)} {m:List (List Key×Addr×Value)},KT H l m->∀x∈m,(tupleKind (dg P w)).is h x.1 x.2.1:=by
  intro l m q
  induction q with
  | nil=>intro x hx; exact nomatch hx
  | @cons p q ps qs hq t ih=>
   intro x hx;rcases d_.mp hx with e | hx
   ·subst e;exact Eh ok (by rw[<- hq.1]; exact hq.2.1)
   ·exact ih x hx
 exact all r x hx
theorem XH {kvs:List (List Key×V)} (ok:mq P w H h) (e:H a=some (.dT kvs)):kvs.length<=sizeLine/\(a==sysModules)=false /\
  ∃xs,KT H kvs xs/\h.DictOfH (tupleKind (dg P w)) a xs:=Ma ok (.inl e)
end
def j8 (H:Hp) (a:Addr) (y:V) (r:Option V):Prop:=
 (∃kvs k,Rd H a (.dK kvs)/\y=kV k/\r=oW kvs k)\/∃kvs k b,Rd H a (.dT kvs)/\y=.ref b/\H b=some (.tup (k.map kV))/\r=oW kvs k
def sO (H:Hp) (a:Addr) (y v:V) (H':Hp):Prop:=
 (∃kvs k,H a=some (.dK kvs)/\y=kV k/\kvs.length<sizeLine/\H'=upd H a (.dK (putK kvs k v))) \/
 ∃kvs k b,H a=some (.dT kvs)/\y=.ref b/\H b=some (.tup (k.map kV))/\kvs.length<sizeLine/\H'=upd H a (.dT (putK kvs k v))
theorem j8.k {H:Hp} {a:Addr} {kvs:List (Key×V)} {k:Key} (e:H a=some (.dK kvs)):j8 H a (kV k) (oW kvs k):=.inl ⟨kvs,k,.inl e,rfl,rfl⟩
theorem sO.k {H:Hp} {a:Addr} {kvs:List (Key×V)} {k:Key} {v:V} (e:H a=some (.dK kvs)) (hl:kvs.length<sizeLine):sO H a (kV k) v (upd H a (.dK (putK kvs k v))):=.inl ⟨kvs,k,e,rfl,hl,rfl⟩
section
variable {X:Cx} {pins:List (Addr×Obj)} {σ:St} {H:Hp} {s:Shared} {a:Addr} {y v:V} {u r:Value} {o:Option V} {A:Around} {E:Value->Shared->Prop}
theorem Inv.big (I:Inv X pins σ H s):sysModules<s.heap.objs.size:=by
 have h:mainGlobals<s.heap.objs.size:=(I.mod.glob.keeps I.bk).lt;exact Bc (by decide) h
theorem xJ {Q:Value->Shared->Prop} (hu:A.units+1<cLine) (I:Inv X pins σ H s) (g:j8 H a y (some v)) (ry:RelV y u) (h:∀w' s',Inv X pins σ H s'->RelV v w'->Q w' s') :
  wpAny (model X.prog X.w) A (getItem (.ref a) u) Q E s:=by
 rcases g with⟨kvs,k,e,ey,l⟩ | ⟨kvs,k,b,e,ey,eb,l⟩
 ·subst ey;obtain⟨z,hd,vs,rel,dd⟩:=GC I.hok e;obtain⟨w',hw,Ao⟩:=m8.some_of (v:=v) (o:=valueAt vs k) (by rw[l]; exact rel.val k)
  exact wpAny_getItem_of (Bx ry) dd.mapOf hw (h w' _ (I.tok _) Ao)
 ·subst ey;cases(show u=Value.ref b from ry);obtain⟨z,hd,xs,rel,dd⟩:=Ma I.hok e;obtain⟨w',hw,Ao⟩:=m8.some_of (v:=v) (o:=(atKey xs k).map (·.2)) (by rw[l]; exact rel.val k)
  obtain⟨p,hp,hp2⟩:=yw.mp hw;refine wpAny_getItem_heap (tupleKind_room_in1 hu) (Eh I.hok eb) dd hp ?_;rw[hp2];exact h w' _ (I.tok _) Ao
theorem pW {h':Heap} {t':Nat} {ob:HO} (I:Inv X pins σ H s) (mu:X3 (H a)) (hs:Heap.SameBut a s.heap h') (he:∃q,h'.get? a=some q) (new:cN X.prog X.w (upd H a ob) h' a ob) :
  Inv X pins σ (upd H a ob) { s with heap:=h',toks:=t' }:=
 I.write (x:=a) (e:=a) mu (.inl rfl) (fun b q hb z=>(hs.2 b hb).trans z) he new
theorem zE {P:Program} {w:World} {H':Hp} {h':Heap} {kvs:List (Key×V)} {vs:List (Key×Value)} (z:kvs.length<=sizeLine) (hd:(a==sysModules)=false) (rel:KV kvs vs) (dd:h'.DictOf (dg P w) a vs) :
  cN P w H' h' a (.dK kvs):=⟨z,hd,vs,rel,dd⟩
theorem xH {H':Hp} {Q:Unit->Shared->Prop} (hu:A.units+1<cLine) (I:Inv X pins σ H s) (g:sO H a y v H') (ry:RelV y u) (rv:RelV v r) (h:∀s',Inv X pins σ H' s'->Q () s') :
  wpAny (model X.prog X.w) A (setItem (.ref a) u r) Q E s:=by
 rcases g with⟨kvs,k,e,ey,l,eH⟩ | ⟨kvs,k,b,e,ey,eb,l,eH⟩
 ·subst ey eH;obtain⟨z,hd,vs,rel,dd⟩:=GD I.hok e;have hz:vs.length<=sizeLine:=by rw[<- rel.length]; exact z
  have hl:(putK kvs k v).length<=sizeLine:=by have:=gK kvs k v; omega
  refine wpAny_setItem_pairs (hsz:=hz) (Bx ry) dd fun h' Qg hs=>h _ ?_;have he:∃q,h'.get? a=some q:=let ⟨q,_,_,hq,_⟩:=Qg; ⟨q,hq⟩;exact pW I (by rw[e]; exact True.intro) hs he (zE hl hd (rel.put k rv) Qg)
 ·subst ey eH;cases(show u=Value.ref b from ry);obtain⟨z,hd,xs,rel,dd⟩:=XH I.hok e;have hz:xs.length<=sizeLine:=by rw[<- Paired.length rel]; exact z
  have hl:(putK kvs k v).length<=sizeLine:=by have:=gK kvs k v; omega
  refine wpAny_setItem_heap (hsz:=hz) (tupleKind_room_in1 hu) (Eh I.hok eb) dd fun h' Qg hs=>h _ ?_;obtain⟨q,es,ep,hq,h2,h3,h4,_,h5⟩:=Qg;refine pW I (by rw[e]; exact True.intro) hs ⟨q,hq⟩ ⟨hl,hd,_,(rel.put k eb rv).keeps fun c ys ec=>?_,q,es,ep,hq,h2,h3,h4,h5⟩
  rw[aJ (WY ec e (fun z=>nomatch z))]
  exact ec
end
section
variable {X:Cx} {pins:List (Addr×Obj)} {σ:St} {H:Hp} {s:Shared} {a:Addr} {kvs:List (Key×V)} {k:Key} {u:Value} {A:Around} {E:Value->Shared->Prop}
end
theorem BR {X:Cx} {pins:List (Addr×Obj)} {σ:St} {H:Hp} {s:Shared} {a:Addr} {y:V} {o:Option V} (I:Inv X pins σ H s) (g:j8 H a y o):s.TypeIs (.ref a) "dict" := by
 rcases g with⟨kvs,k,e,_,_⟩ | ⟨kvs,k,b,e,_,_,_⟩
 ·obtain⟨_,_,vs,_,dd⟩:=GC I.hok e;exact dd.typeIs
 ·obtain⟨_,_,xs,_,dd⟩:=Ma I.hok e;exact dd.typeIs
def QT (td ty tv:TE) (rd:V->V->Hp->VK->Prop):TS:=fun D σ H=>td σ H fun x H1=>ty σ H1 fun y H2=>∃a v,x=.ref a/\j8 H2 a y (some v) /\
 tv σ H2 fun y2 H3=>rd v y2 H3 fun z H4=>∃H5,sO H4 a y z H5/\D.nx σ H5
section
variable {X:Cx} {o i e value:Expr} {pos pos' tpos:Pos} {td ty tv:TE}
theorem Oo {op:Operator} {rd:V->V->Hp->VK->Prop} (hu:X.A.units+1<cLine) (ho:PE X o td) (hi:PE X i ty) (hv:PE X value tv) (hop:X6 X op rd)
  (ha:∀ov iv new,augStore i ov iv new=(do holding [new,ov,iv] (setItem ov iv new); release [new,ov,iv] []; pure .next)):PS X (.AugAssign (.Subscript o i tpos) op value pos) (QT td ty tv rd):=by
 refine .mk ?_;intro pins s σ H D I h;refine wpAny_AugAssign_SubscriptAny (cz (ho pins s σ H _ I h) fun u s1 ⟨x,H1,I1,rx,q1⟩=>cz (hi pins s1 σ H1 _ I1 q1) fun iv s2 ⟨y,H2,I2,ry,a,v,ex,g,q2⟩=>?_) ha;subst ex;obtain rfl:u=Value.ref a:=rx;refine xJ hu I2 g ry fun w' s3 I3 Ao=>cz (hv pins s3 σ H2 _ I3 q2) fun w2 s4 ⟨y2,H3,I4,ry2,q3⟩=>cz (hop pins s4 σ H3 v y2 w' w2 _ I4 Ao ry2 q3) fun w3 s5 qx=>?_;obtain⟨z,H4,I5,rz,H5,g5,q4⟩:=qx;exact xH hu I5 g5 ry rz fun s6 I6=>⟨σ,H5,I6,q4⟩
end
theorem BP {P:Program} {w:World} {H:Hp} (h:Heap) (hb:sysModules<h.objs.size):cN P w H (h.push { cls:=.type "dict",data:=.dict #[] }) h.objs.size (.dK []):=
 ⟨iY _,beq_eq_false_iff_ne.mpr (Ne.symm (dM hb)),[],.nil,Heap.DictOf.new h⟩
section
variable {X:Cx} {pos:Pos}
end
structure M1 (X:Cx) (o:Expr) (m:Str) (apos:Pos) (e:Expr) (cpos:Pos):Prop where
 base:attributeBase o m X.env (eval o X.env)=eval o X.env
 few:((backTo cpos (starEach [e] X.env)).all (fun x=>!x.1)&&(backToKw cpos (keywordEach [] X.env)).all (fun x=>x.1.isSome)
  && decide (([e]:List Expr).length+([]:List Keyword).length+(if([]:List Keyword).isEmpty then 0 else 1)<30))=true
 line:(apos.endLine==cpos.line)=true
 trees:backTo cpos (starEach [e] X.env)=[(false,eval e X.env)]
structure M2 (X:Cx) (o:Expr) (m:Str) (apos:Pos) (e f:Expr) (cpos:Pos):Prop where
 base:attributeBase o m X.env (eval o X.env)=eval o X.env
 few:((backTo cpos (starEach [e,f] X.env)).all (fun x=>!x.1)&&(backToKw cpos (keywordEach [] X.env)).all (fun x=>x.1.isSome)
  && decide (([e,f]:List Expr).length+([]:List Keyword).length+(if([]:List Keyword).isEmpty then 0 else 1)<30))=true
 line:(apos.endLine==cpos.line)=true
 trees:backTo cpos (starEach [e,f] X.env)=[(false,eval e X.env),(false,eval f X.env)]
section
variable {X:Cx} {pins:List (Addr×Obj)} {σ:St} {H:Hp} {s:Shared} {a:Addr} {y d:V} {u r:Value} {o:Option V} {A:Around} {E:Value->Shared->Prop}
end
section
variable {X:Cx} {o e f:Expr} {apos cpos:Pos} {td ty tx:TE}
end
section
variable {X:Cx} {pins:List (Addr×Obj)} {σ:St} {H:Hp} {s:Shared} {a:Addr} {kvs:List (Key×V)} {A:Around} {E:Value->Shared->Prop}
theorem Mh {Q:Value->Shared->Prop} (I:Inv X pins σ H s) (e:Rd H a (.dK kvs)) (h:∀p s',H p=none->Inv X pins σ (upd H p (.dK kvs)) s'->Q (.ref p) s'):wpAny (model X.prog X.w) A (call (.type "dict") [.ref a]) Q E s:=by
 obtain⟨z,hd,vs,rel,dd⟩:=GC I.hok e;refine kt_call_dict hd dd (by rw[<- rel.length]; exact z) fun h' Qg hs=>?_
 refine h _ _ (I.hok.fresh (bG _)) (I.laid (a:=s.heap.objs.size) (o:=.dK kvs) (t':=s.toks) (fun b q hq=>?_) (bG _) (zE z (beq_eq_false_iff_ne.mpr (Ne.symm (dM I.big))) rel Qg));exact(hs.2 b (dM (b8 hq))).trans (e_ _ hq)
end
section
variable {X:Cx} {pins:List (Addr×Obj)} {σ:St} {H:Hp} {s:Shared} {a:Addr} {y:V} {u:Value} {A:Around} {E:Value->Shared->Prop}
end
end L2
set_option maxHeartbeats 4000000
namespace L2
open PySem PySem.Spec PyProof.Rows
def iU (env:Env) (cs:List (Str×Addr)) (y:Str×NameKind):List (Str×Addr):=
 if y.2==.free then(match env.cells.lookup y.1 with | some c=>(y.1,c)::cs | none=>cs) else cs
def oM (sc:Scope) (env:Env):List (Str×Addr):=sc.names.foldl (iU env) []
theorem BW {env:Env}:∀(ns:List (Str×NameKind)) (acc:List (Str×Addr)),(∀y c,acc.lookup y=some c->env.cells.lookup y=some c)->∀y c,(ns.foldl (iU env) acc).lookup y=some c->env.cells.lookup y=some c
 | [],acc,h,y,c,e=>h y c e
 | n::ns,acc,h,y,c,e=>by
  refine BW ns (iU env acc n) (fun z d q=>?_) y c e;unfold iU at q;split at q
  ·split at q
   ·rename_i c' hc';rw[qI] at q;split at q
    ·rename_i hz;have hz':z=n.1:=by simpa using hz
     cases q;rw[hz']; exact hc'
    ·exact h z d q
   ·exact h z d q
  ·exact h z d q
theorem fU {sc:Scope} {env:Env} {y:Str} {c:Addr} (e:(oM sc env).lookup y=some c):env.cells.lookup y=some c:=
 BW sc.names [] (fun _ _ q=>by simp at q) y c e
theorem GR {env:Env} {y:Str} {c:Addr} (hc:env.cells.lookup y=some c):∀(ns:List (Str×NameKind)) (acc:List (Str×Addr)),acc.lookup y=some c->(ns.foldl (iU env) acc).lookup y=some c
 | [],acc,h=>h
 | n::ns,acc,h=>by
  refine GR hc ns (iU env acc n) ?_;unfold iU;split
  ·split
   ·rename_i c' hc';rw[qI];split
    ·rename_i hz;have hz':y=n.1:=by simpa using hz
     rw[<- hz',hc] at hc';exact hc'.symm
    ·exact h
   ·exact h
  ·exact h
theorem Ep {env:Env} {y:Str} {c:Addr} (hc:env.cells.lookup y=some c):∀(ns:List (Str×NameKind)) (acc:List (Str×Addr)),(y,NameKind.free)∈ns->(ns.foldl (iU env) acc).lookup y=some c
 | [],_,h=>by simp at h
 | n::ns,acc,h=>by
  rcases d_.mp h with e | h
  ·subst e;refine GR hc ns _ ?_;unfold iU;simp[hc]
  ·exact Ep hc ns _ h
theorem rC {sc:Scope} {env:Env} {x:Str} {k':NameKind} (h:(relabel sc env).names.lookup x=some k'):∃k,(x,k)∈sc.names/\(k'=k\/(k=.free/\k'=.cell)):=by
 have m:=PySem.mem_of_lookup h;unfold relabel at m;obtain⟨⟨n,k⟩,hm,e⟩:=lF.mp m;dsimp only at e;split at e
 ·rename_i hc;injection e with e1 e2
  subst e1;refine⟨k,hm,.inr ⟨?_,e2.symm⟩⟩
  have:(k==NameKind.free)=true:=by
   cases hk:(k==NameKind.free) with
   | true=>rfl
   | false=>rw[hk] at hc; simp at hc
  exact beq_iff_eq.mp this
 ·injection e with e1 e2
  subst e1 e2;exact⟨k,hm,.inl rfl⟩
theorem pG {env:Env} {x:Str} (hf:env.scope.kind=.function) (hk:env.kindOf x=some .cell):∀(ns:List (Str×NameKind)),ns.lookup x=some .free ->
  (ns.map fun(y:Str×NameKind)=>if(y.2==.free&&env.scope.kind==.function&&env.kindOf y.1==some .cell) then(y.1,NameKind.cell) else(y.1,y.2)).lookup x=some .cell
 | [],h=>by simp at h
 | (n,k)::r,h=>by
  have ih:=pG hf hk r;rw[nU];cases hx:x==n with
  | true=>
   have e:x=n:=by simpa using hx
   subst e;simp only[qI,beq_self_eq_true] at h;cases h;dsimp only;rw[a_ (by simp[hf,hk])]
   simp[qI]
  | false=>
   simp only[qI,hx] at h;dsimp only;split
   ·simp only[qI,hx]; exact ih h
   ·simp only[qI,hx]; exact ih h
def M5 (X:Cx) (N':List Str) (sc:Scope) (fp:List Addr) (s:Shared) (H:Hp):Cx where
 prog:=X.prog
 w:=X.w
 K:=X.K
 mg:=X.mg
 base:=X.base
 A:=X.A
 N:=N'
 s₀:=s
 H₀:=H
 env:=compEnvC sc (oM sc X.env) s.heap.objs.size X.env
 outer:=X.stack
 stack:=X.stack
 ex:=fp
 fn:=fun _=>false
 calm:=X.calm
 pn:=[]
 xe:=fun _ _=>False
structure qt (X:Cx) (N':List Str) (js:List Nat) (sc:Scope):Prop where
 kind:sc.kind=.function
 jZ:∀y∈sc.names,y.2≠.cell
 names:∀y∈sc.names,y.2=.local->sc.names.lookup y.1=some .local
 clos:closureFor sc X.env=pure (oM sc X.env)
 all:(sc.names.all fun y=>y.2 != .free || (X.env.cells.lookup y.1).isSome)=true
 len:N'.length=js.length+1
 cap:∀(i j:Nat),js[i]?=some j->N'[i+1]?=X.N[j]?
 Mp:∀y∈N'.tail,X.env.kindOf y=some .cell/\sc.names.lookup y=some .free
def cH (js:List Nat) (σ:St):St:=js.map fun j=>(σ[j]?).join
def ir (js:List Nat) (wi:TI) (te:TE):TE:=fun σ H Q=>wi σ H fun J H1=>∀acc,H1 acc=none->∃W:Nat->Nat->List V->Hp->Prop,(∃m,W 0 m [] (upd H1 acc (.lst [])))/\∀i m ys H2,W i m ys H2 ->
 (J.stop i H2/\Q (.ref acc) H2)\/(J.go i H2/\∀x H3,J.Fi i H2 x H3->te (some x::cH js σ) H3 fun y H4=>H4 acc=some (.lst ys)/\ys.length<sizeLine/\∃m',m'<m/\W (i+1) m' (ys++[y]) (upd H4 acc (.lst (ys++[y]))))
def aan:Key->PyData
 | .inl i=>.int i
 | .inr x=>.str x
mutual
def At (H:Hp):PyData->V->Prop
 | .none,v=>v=.non
 | .bool b,v=>v=.bl b
 | .int i,v=>v=.int i
 | .str x,v=>v=.str x
 | .tuple ds,v=>∃a xs,v=.ref a/\H a=some (.tup xs)/\aa H ds xs
 | .list ds,v=>∃a xs,v=.ref a/\H a=some (.lst xs)/\aa H ds xs
 | .dict kvs,v=>∃a es,v=.ref a/\H a=some (.dK es)/\z9 H kvs es
def aa (H:Hp):List PyData->List V->Prop
 | [],xs=>xs=[]
 | d::ds,xs=>∃x r,xs=x::r/\At H d x/\aa H ds r
def z9 (H:Hp):List (PyData×PyData)->List (Key×V)->Prop
 | [],es=>es=[]
 | (k,d)::r,es=>∃q v t,es=(q,v)::t/\k=aan q/\At H d v/\z9 H r t
end
mutual
theorem At.mono {H H':Hp} (m:aL H H'):∀(d:PyData) (v:V),At H d v->At H' d v
 | .none,_,h=>by unfold At at h ⊢; exact h
 | .bool _,_,h=>by unfold At at h ⊢; exact h
 | .int _,_,h=>by unfold At at h ⊢; exact h
 | .str _,_,h=>by unfold At at h ⊢; exact h
 | .tuple ds,v,h=>by
  unfold At at h ⊢;obtain⟨a,xs,e,h1,h2⟩:=h;exact⟨a,xs,e,m _ _ h1,aa.mono m ds xs h2⟩
 | .list ds,v,h=>by
  unfold At at h ⊢;obtain⟨a,xs,e,h1,h2⟩:=h;exact⟨a,xs,e,m _ _ h1,aa.mono m ds xs h2⟩
 | .dict kvs,v,h=>by
  unfold At at h ⊢;obtain⟨a,es,e,h1,h2⟩:=h;exact⟨a,es,e,m _ _ h1,z9.mono m kvs es h2⟩
theorem aa.mono {H H':Hp} (m:aL H H'):∀(ds:List PyData) (xs:List V),aa H ds xs->aa H' ds xs
 | [],_,h=>by unfold aa at h ⊢; exact h
 | d::ds,xs,h=>by
  unfold aa at h ⊢;obtain⟨x,r,e,h1,h2⟩:=h;exact⟨x,r,e,At.mono m d x h1,aa.mono m ds r h2⟩
theorem z9.mono {H H':Hp} (m:aL H H'):∀(kvs:List (PyData×PyData)) (es:List (Key×V)),z9 H kvs es->z9 H' kvs es
 | [],_,h=>by unfold z9 at h ⊢; exact h
 | (k,d)::r,es,h=>by
  unfold z9 at h ⊢;obtain⟨q,v,t,e,e',h1,h2⟩:=h;exact⟨q,v,t,e,e',At.mono m d v h1,z9.mono m r t h2⟩
end
theorem aa.length {H:Hp}:∀{ds:List PyData} {xs:List V},aa H ds xs->xs.length=ds.length
 | [],xs,h=>by unfold aa at h; rw[h]; rfl
 | d::ds,xs,h=>by
  unfold aa at h;obtain⟨x,r,e,_,h2⟩:=h;rw[e,ju,ju,aa.length h2]
theorem aa.get {H:Hp}:∀{ds:List PyData} {xs:List V} {i:Nat} {x:V},aa H ds xs->xs[i]?=some x->∃d,ds[i]?=some d/\At H d x
 | [],xs,i,x,h,e=>by unfold aa at h; rw[h] at e; simp at e
 | d::ds,xs,i,x,h,e=>by
  unfold aa at h;obtain⟨y,r,e1,h1,h2⟩:=h;subst e1;cases i with
  | zero=>simp at e; subst e; exact⟨d,rfl,h1⟩
  | succ i=>
   obtain⟨d',q1,q2⟩:=aa.get (i:=i) (x:=x) h2 (by simpa using e)
   exact⟨d',by simpa using q1,q2⟩
theorem aa.append {H:Hp}:∀{ds es:List PyData} {xs ys:List V},aa H ds xs->aa H es ys->aa H (ds++es) (xs++ys)
 | [],es,xs,ys,h,q=>by unfold aa at h; subst h; exact q
 | d::ds,es,xs,ys,h,q=>by
  unfold aa at h;obtain⟨x,r,e,h1,h2⟩:=h;subst e;show aa H (d::(ds++es)) (x::(r++ys));unfold aa;exact⟨x,r++ys,rfl,h1,aa.append h2 q⟩
theorem aa.take {H:Hp}:∀{ds:List PyData} {xs:List V} (n:Nat),aa H ds xs->aa H (ds.take n) (xs.take n)
 | ds,xs,0,h=>by simp[aa]
 | [],xs,n+1,h=>by unfold aa at h; subst h; simp[aa]
 | d::ds,xs,n+1,h=>by
  unfold aa at h;obtain⟨x,r,e,h1,h2⟩:=h;subst e;show aa H (d::ds.take n) (x::r.take n);unfold aa;exact⟨x,_,rfl,h1,aa.take n h2⟩
theorem aa.nil {H:Hp}:aa H [] []:=by unfold aa; rfl
theorem aa.cons {H:Hp} {d:PyData} {ds:List PyData} {x:V} {xs:List V} (h1:At H d x) (h2:aa H ds xs):aa H (d::ds) (x::xs):=by
 unfold aa; exact⟨x,xs,rfl,h1,h2⟩
theorem At.tup {H:Hp} {a:Addr} {xs:List V} {ds:List PyData} (h:H a=some (.tup xs)) (q:aa H ds xs):At H (.tuple ds) (.ref a):=by
 unfold At; exact⟨a,xs,rfl,h,q⟩
theorem At.lst {H:Hp} {a:Addr} {xs:List V} {ds:List PyData} (h:H a=some (.lst xs)) (q:aa H ds xs):At H (.list ds) (.ref a):=by
 unfold At; exact⟨a,xs,rfl,h,q⟩
theorem At.int {H:Hp} (i:Int):At H (.int i) (.int i):=by unfold At; rfl
theorem At.str {H:Hp} (x:Str):At H (.str x) (.str x):=by unfold At; rfl
theorem At.bool {H:Hp} (b:Bool):At H (.bool b) (.bl b):=by unfold At; rfl
theorem aN {H:Hp} {p:Addr} (h:H p=none) (o:HO):aL H (upd H p o):=fun b u q=>by rw[aJ (cC q h)]; exact q
def Zx:PyData->String
 | .none=>"NoneType"
 | .bool _=>"bool"
 | .int _=>"int"
 | .str _=>"str"
 | .tuple _=>"tuple"
 | .list _=>"list"
 | .dict _=>"dict"
theorem At.ty {K:PySem.W.Frag} {H:Hp} {d:PyData} {v:V} (h:At H d v):qY K H v (.type (Zx d)):=by
 cases d with
 | none=>unfold At at h; subst h; exact .non
 | bool b=>unfold At at h; subst h; exact .bl b
 | int i=>unfold At at h; subst h; exact .int i
 | str x=>unfold At at h; subst h; exact .str x
 | tuple ds=>unfold At at h; obtain⟨a,xs,e,h1,_⟩:=h; subst e; exact .tup h1
 | list ds=>unfold At at h; obtain⟨a,xs,e,h1,_⟩:=h; subst e; exact .lst h1
 | dict ds=>unfold At at h; obtain⟨a,xs,e,h1,_⟩:=h; subst e; exact .dK h1
def isInt:PyData->Bool
 | .int _=>true
 | .bool _=>true
 | _=>false
def isStr:PyData->Bool
 | .str _=>true
 | _=>false
theorem Pn (K:PySem.W.Frag) (d:PyData):PySem.W.kitOne K (.type (Zx d)) (.type "str")=some (isStr d):=by cases d <;> kernel_rfl
section
variable {X:Cx}
def Ws (T:String) (f:PyData->Bool):List V->Hp->VK->Prop:=fun vs H Q=>∃v d,vs=[v,.ty T]/\At H d v/\Q (.bl (f d)) H
theorem Tn {T:String} {f:PyData->Bool} (hf:∀K d,PySem.W.kitOne K (.type (Zx d)) (.type T)=some (f d)):du X (.builtin "isinstance") (Ws T f):=by
 refine .mk ?_;intro pins s σ H vs us Q I r h;obtain⟨v,d,rfl,hv,q⟩:=h;obtain⟨u,t,rfl,ru,rt⟩:=r.two;cases(show t=Value.type T from rt);exact Iw I ru (hv.ty (K:=X.K)) (hf X.K d) fun tk=>⟨.bl (f d),H,I.tok tk,rfl,q⟩
theorem Px:du X (.builtin "isinstance") (Ws "str" isStr):=Tn Pn
theorem Fo:∀{bs:List Bool} {us:List Value},Vals (bs.map V.bl) us->us=bs.map Value.bool
 | [],_,.nil=>rfl
 | b::bs,_,.cons r t=>by
  cases(show _=Value.bool b from r);rw[Fo t]; rfl
theorem range_all (bs:List Bool):(List.range bs.length).all (fun i=>bs.getD i false)=bs.all id:=by
 rw[Bh,mW,mW];constructor
 ·intro h b hb;obtain⟨i,hi,rfl⟩:=List.mem_iff_getElem.mp hb;have:=h i (List.mem_range.mpr hi);simpa[nQ,hi] using this
 ·intro h i hi;have hi':=List.mem_range.mp hi;have:=h bs[i] (yr hi');simpa[nQ,hi'] using this
theorem mR (hc:X.calm=true):du X (.builtin "all") (fun vs H Q=>∃(p:Addr) (bs:List Bool),vs=[.ref p]/\H p=some (.lst (bs.map V.bl))/\Q (.bl (bs.all id)) H):=by
 refine .mk ?_;intro pins s σ H vs us Q I r h;obtain⟨p,bs,rfl,hp,q⟩:=h;obtain⟨u,rfl,ru⟩:=r.one;cases ru;obtain⟨z,its,n,rv,e⟩:=I.hok p _ hp;have e2:=Fo rv;subst e2;have hl:s.heap.IsList p (bs.map Value.bool).toArray:=⟨_,e,rfl,n,rfl⟩;have lt:p<s.heap.objs.size:=b8 e;refine call_all_walk (Dv hl ?_);refine⟨_,_,_,_,_,_,fun i=>bs.getD i false,rfl,Walks.list (A:=X.A.in1) (I.ok.hd hc) _ p (dM lt) _,⟨⟨_,dN _ rfl,rfl,rfl⟩,hl.push _⟩,fun i v s' Q' E' hv hq=>?_,fun h' tk hk=>?_⟩
 ·have hv':(bs.map Value.bool).toArray[i]?=some v:=hv
  have:v=.bool (bs.getD i false):=by
   simp only[List.getElem?_toArray,dw] at hv';cases q:bs[i]? with
   | none=>rw[q] at hv'; simp at hv'
   | some b=>rw[q] at hv'; simp at hv'; simp[nQ,q,<- hv']
  rw[this];exact Dw hq
 ·have e3:(List.range (bs.map Value.bool).toArray.size).all (fun i=>bs.getD i false)=bs.all id:=by
   rw[eG,cT]; exact range_all bs
  refine⟨.bl (bs.all id),H,I.kept (t':=tk) (fun b o eb=>?_),by rw[<- e3]; rfl,q⟩
  exact hk b o (by simpa using dM (b8 eb)) (e_ _ eb)
theorem Bm:∀(ns:List Int),preSum (fun i=>ns.getD i 0) ns.length=ns.sum:=by
 have key:∀(ns:List Int) (k:Nat),k<=ns.length->preSum (fun i=>ns.getD i 0) k=(ns.take k).sum:=by
  intro ns k
  induction k with
  | zero=>intro _; rfl
  | succ k ih=>
   intro hk
   have e:ns.take (k+1)=ns.take k++[ns.getD k 0]:=by
    rw[List.take_succ,gG (by omega)]
    simp[nQ,gG (show k<ns.length by omega)]
   show preSum _ k+ns.getD k 0=_;rw[ih (by omega),e,List.sum_append]
   simp
 intro ns;rw[key ns ns.length (bG _),nY]
theorem Gw {ns:List Int} {its:List Value} (r:Vals (ns.map V.int) its) {i:Nat} {v:Value} (h:its.toArray[i]?=some v):∃t,v=.int (ns.getD i 0) t:=by
 have h':its[i]?=some v:=by simpa using h
 have hi:i<its.length:=(eN.mp h').1;have hl:=r.length;rw[cT] at hl;obtain⟨u,hu,ru⟩:=r.get (i:=i) (x:=V.int (ns[i]'(by omega))) (by rw[dw,gG (by omega)]; rfl)
 rw[h'] at hu;cases hu;obtain⟨t,e⟩:=ru;exact⟨t,by rw[e,nQ,gG (by omega)]; rfl⟩
theorem il (hc:X.calm=true):du X (.builtin "sum") (fun vs H Q=>∃(p:Addr) (ns:List Int),vs=[.ref p]/\(H p=some (.lst (ns.map V.int))\/H p=some (.tup (ns.map V.int)))/\Q (.int ns.sum) H):=by
 refine .mk ?_;intro pins s σ H vs us Q I r h;obtain⟨p,ns,rfl,hp,q⟩:=h;obtain⟨u,rfl,ru⟩:=r.one;cases ru
 have fin:∀{h':Heap} {tk:Nat} {t':Tok} {o:Obj},(∀b o',b∉[s.heap.objs.size]->(s.heap.push o).get? b=some o'->h'.get? b=some o')->EP X pins σ Q (.int (preSum (fun i=>ns.getD i 0) ns.length) t') { s with heap:=h',toks:=tk }:=fun {h' tk t' o} hk=>
  ⟨.int ns.sum,H,I.kept (t':=tk) (fun b o' eb=>hk b o' (by simpa using dM (b8 eb)) (e_ _ eb)),⟨t',by rw[Bm]⟩,q⟩
 rcases hp with hp | hp
 ·obtain⟨z,its,n,rv,e⟩:=I.hok p _ hp;have hl:s.heap.IsList p its.toArray:=⟨_,e,rfl,n,rfl⟩;have lt:p<s.heap.objs.size:=b8 e;have hlen:=rv.length;rw[cT] at hlen;refine call_sum_walkG (Dv hl ?_);refine⟨_,_,_,_,_,_,fun i=>ns.getD i 0,rfl,Walks.list (A:=X.A.in1) (I.ok.hd hc) _ p (dM lt) _,⟨⟨_,dN _ rfl,rfl,rfl⟩,hl.push _⟩,fun b hb=>?_,fun i v hv=>Gw rv hv,fun h' tk t' hk=>?_⟩
  ·show b<(s.heap.push _).objs.size;rw[gY];rcases d_.mp hb with rfl | hb
   ·exact A_ _
   ·rw[gF.mp hb]; exact Bb lt
  ·rw[eG,<- hlen]; exact fin hk
 ·obtain⟨z,its,rv,ht⟩:=I.hok p _ hp;have ht':s.heap.IsTuple p its.toArray:=ht;have lt:p<s.heap.objs.size:=by obtain⟨o,e,_⟩:=ht; exact b8 e
  have hlen:=rv.length;rw[cT] at hlen;refine call_sum_walkG (wpAny_pyIter_tuple ht' ?_);refine⟨_,_,_,_,_,_,fun i=>ns.getD i 0,rfl,Walks.tuple (A:=X.A.in1) (I.ok.hd hc) _ p (dM lt) _,⟨⟨_,dN _ rfl,rfl,rfl⟩,?_⟩,fun b hb=>?_,fun i v hv=>Gw rv hv,fun h' tk t' hk=>?_⟩
  ·obtain⟨o,e,c⟩:=ht';exact⟨o,e_ _ e,c⟩
  ·show b<(s.heap.push _).objs.size;rw[gY];rcases d_.mp hb with rfl | hb
   ·exact A_ _
   ·rw[gF.mp hb]; exact Bb lt
  ·rw[eG,<- hlen]; exact fin hk
theorem xP:du X (.type "int") (fun vs H Q=>∃(b:Bool),vs=[.bl b]/\Q (.int (if b then 1 else 0)) H):=by
 refine .mk ?_;intro pins s σ H vs us Q I r h;obtain⟨b,rfl,q⟩:=h;obtain⟨u,rfl,ru⟩:=r.one;cases(show u=Value.bool b from ru);exact call_int_bool ⟨.int (if b then 1 else 0),H,I.tok _,⟨_,rfl⟩,q⟩
end
mutual
theorem lE {P:Program} {w:World} {H:Hp} {h:Heap} (ok:mq P w H h):∀(d:PyData) (v:V) (u:Value),At H d v->RelV v u->d.hasDict=false->∃as,Reads h u d as
 | .none,v,u,a,r,_=>by unfold At at a; subst a; cases r; exact⟨_,.none⟩
 | .bool b,v,u,a,r,_=>by unfold At at a; subst a; cases r; exact⟨_,.bool b⟩
 | .int i,v,u,a,r,_=>by unfold At at a; subst a; obtain⟨t,rfl⟩:=r; exact⟨_,.int i t⟩
 | .str x,v,u,a,r,_=>by unfold At at a; subst a; obtain⟨t,rfl⟩:=r; exact⟨_,.str x t⟩
 | .tuple ds,v,u,a,r,nd=>by
  unfold At at a;obtain⟨p,xs,e,hp,ha⟩:=a;subst e;cases r;obtain⟨_,its,rv,o,e1,e2,n,e3⟩:=ok p _ hp;obtain⟨as,ra⟩:=qH ok ds xs its ha rv (by simpa[PyData.hasDict] using nd)
  exact⟨_,.tuple e1 e2 e3 (by simpa using ra)⟩
 | .list ds,v,u,a,r,nd=>by
  unfold At at a;obtain⟨p,xs,e,hp,ha⟩:=a;subst e;cases r;obtain⟨_,its,n,rv,e1⟩:=ok p _ hp;obtain⟨as,ra⟩:=qH ok ds xs its ha rv (by simpa[PyData.hasDict] using nd)
  exact⟨_,.list e1 rfl rfl (by simpa using ra)⟩
 | .dict kvs,v,u,a,r,nd=>by simp[PyData.hasDict] at nd
theorem qH {P:Program} {w:World} {H:Hp} {h:Heap} (ok:mq P w H h):∀(ds:List PyData) (xs:List V) (us:List Value),aa H ds xs->Vals xs us->PyData.hasDictAll ds=false->∃as,ReadsAll h us ds as
 | [],xs,us,a,r,_=>by unfold aa at a; subst a; cases r; exact⟨_,.nil⟩
 | d::ds,xs,us,a,r,nd=>by
  unfold aa at a;obtain⟨x,t,e,h1,h2⟩:=a;subst e;have nd':d.hasDict=false/\PyData.hasDictAll ds=false:=by simpa[PyData.hasDictAll] using nd
  cases r with
  | cons r1 r2=>
   obtain⟨as,q1⟩:=lE ok d x _ h1 r1 nd'.1;obtain⟨bs,q2⟩:=qH ok ds t _ h2 r2 nd'.2;exact⟨_,.cons q1 q2⟩
end
structure adf (d:PyData):Prop where
 can:d.showable=true
 nod:d.hasDict=false
 len:d.shown.length<=sizeLine
 dep:d.depth<=60
section
variable {X:Cx}
def Gi (mg:Str->Option Value) (x:Str) (i:Int):Prop:=∃t,mg x=some (.int i t)
theorem yG {x:Str} {i:Int} {pos:Pos} (h:Gi X.mg x i) (hg:Gl X x:=by rfl) (hd:(x==("__debug__" : Str))=false:=by decide):PE X (.Name x pos) (tC (.int i)):=by
 obtain⟨t,ht⟩:=h;exact yH hg ht ⟨t,rfl⟩ hd
structure Ct (P:Program) (w:World) (K:PySem.W.Frag) (mg:Str->Option Value) (base:Heap) (k:Nat) (x:Str) (ps:List Str) (sp:Sp) where
 f:Addr
 fd:FuncData
 G:bD P w K mg base fY k f fd ps sp
 kp:PySem.W.keepIn K (.ref f)=true
 b:Binds K fd ps []
 m:mg x=some (.ref f)
def Ct.mono {P:Program} {w:World} {K:PySem.W.Frag} {mg:Str->Option Value} {base:Heap} {j k:Nat} {x:Str} {ps:List Str} {sp:Sp} (c:Ct P w K mg base j x ps sp) (h:j<=k):Ct P w K mg base k x ps sp:={ c with G:=c.G.mono h }
theorem WD {k:Nat} {x:Str} {ps:List Str} {sp:Sp} {e:Expr} {es:List Expr} {t:TA} {p pos:Pos} (c:Ct X.prog X.w X.K X.mg X.base k x ps sp) (hr:dZ k X.A) (ha:PA X (e::es) t) (hg:Gl X x:=by rfl)
  (hdb:(x==("__debug__" : Str))=false:=by decide) (he:starEach (e::es) X.env=(false,eval e X.env)::starEach es X.env:=by rfl) (hpl:(backTo pos (starEach es X.env)).any (·.1)=false:=by rfl) :
  PE X (.Call (.Name x p) (e::es) [] pos) (kI sp [] E0 t):=yI c.G hr hg c.m c.kp c.b .nil w6 ha hdb he hpl
end
theorem N7 {v:V} {σ:St} {H:Hp} {Q:VK}:rM 0 (some v::σ) H Q=Q v H:=rfl
theorem N6 {i:Nat} {o:Option V} {σ:St} {H:Hp} {Q:VK}:rM (i+1) (o::σ) H Q=rM i σ H Q:=rfl
theorem Oa {v:V} {o:Option V} {σ:St}:(o::σ).set 0 (some v)=some v::σ:=rfl
theorem N_ {i:Nat} {v:V} {o:Option V} {σ:St}:(o::σ).set (i+1) (some v)=o::σ.set i (some v):=rfl
theorem Kg {t:TG} {u:MF} {v:V} {r:List V} {σ:St} {H:Hp} {Q:St->Hp->Prop}:rF t u (v::r) σ H Q=t v σ H fun σ' H'=>u r σ' H' Q:=rfl
theorem Ob {σ:St} {H:Hp} {Q:St->Hp->Prop}:Jb [] σ H Q=Q σ H:=rfl
theorem eF {b:Bool} {A B:Prop} (h1:b=true->A) (h2:b=false->B):if b=true then A else B:=by
 cases b
 ·rw[aV (by decide)]; exact h2 rfl
 ·rw[a_ rfl]; exact h1 rfl
theorem R1 {i j:Int} {H:Hp} {Q:VK}:Wu (.int i) (.int j) H Q=Q (.bl (decide (i=j))) H:=by
 unfold Wu Ho; simp
theorem RX {i j:Int} {H:Hp} {Q:VK}:Wo (.int i) (.int j) H Q=Q (.bl (!decide (i=j))) H:=by
 unfold Wo Ho; simp
theorem R0 {i j:Str} {H:Hp} {Q:VK}:Wu (.str i) (.str j) H Q=Q (.bl (decide (i=j))) H:=by
 unfold Wu Ho; simp
theorem RW {i j:Str} {H:Hp} {Q:VK}:Wo (.str i) (.str j) H Q=Q (.bl (!decide (i=j))) H:=by
 unfold Wo Ho; simp
theorem Oc {i:Int} {P:Int->Prop}:(∃k,[V.int i]=[V.int k]/\P k)=P i:=by
 simp
theorem Od {i:Bool} {P:Bool->Prop}:(∃k,[V.bl i]=[V.bl k]/\P k)=P i:=by
 simp
theorem Kh {i j:Int} {P:Int->Int->Prop}:(∃a b,[V.int i,V.int j]=[V.int a,V.int b]/\P a b)=P i j:=by
 refine propext ⟨?_,fun h=>⟨i,j,rfl,h⟩⟩;rintro⟨a,b,e,h⟩;cases e;exact h
theorem N8 {b:Bool} {P:Bool->Prop}:(∃k,V.bl b=V.bl k/\P k)=P b:=by
 simp
theorem RZ {i:Int} {P:Int->Prop}:(∃k,V.int i=V.int k/\P k)=P i:=by
 simp
theorem Wk {i j:Int} {P:Int->Int->Prop}:(∃a b,V.int i=V.int a/\V.int j=V.int b/\P a b)=P i j:=by
 simp
theorem rH {α β:Type} {g:β->α->β} {f:α->β->Sem (ForInStep β)}:∀(l:List α) (c:β),(∀x∈l,∀c,f x c=pure (.yield (g c x)))->forIn l c f=(pure (l.foldl g c):Sem β)
 | [],c,_=>rfl
 | x::l,c,h=>by
  rw[Ay,h x nZ c,pure_bind];exact rH l (g c x) fun y hy=>h y (n_ _ hy)
theorem iT {sc:Scope} {env:Env} (h:(sc.names.all fun y=>y.2 != .free || (env.cells.lookup y.1).isSome)=true):closureFor sc env=pure (oM sc env):=by
 unfold closureFor oM;dsimp only;rw[rH (g:=iU env) sc.names [] (fun y hy c=>?_)]
 ·rfl
 obtain⟨n,k⟩:=y;have a:=mW.mp h _ hy;dsimp only;unfold iU;dsimp only;cases hk:(k==NameKind.free) with
 | false=>simp
 | true=>
  have hk':k=.free:=beq_iff_eq.mp hk;subst hk';have a':(env.cells.lookup n).isSome=true:=by simpa using a
  obtain⟨c',hc'⟩:=Kp.mp a';simp[cellOf,hc']
theorem lK {sc:Scope} (h:(sc.names.all fun y=>y.2 != .local || sc.names.lookup y.1==some .local)=true):∀y∈sc.names,y.2=.local->sc.names.lookup y.1=some .local:=fun y hy e=>by
 have a:=mW.mp h y hy;rw[e] at a;simpa using a
theorem qt.Q3 {X:Cx} {x:Str} {sc:Scope} (k:sc.kind=.function:=by rfl) (n:(sc.names.all fun y=>y.2 != .cell&&y.2 != .free)=true:=by decide +kernel) (l:(sc.names.all fun y=>y.2 != .local || sc.names.lookup y.1==some .local)=true:=by decide +kernel):qt X [x] [] sc:=by
 have n':∀y∈sc.names,y.2≠.cell/\y.2≠.free:=fun y hy=>by have:=mW.mp n y hy; simpa using this
 have al:(sc.names.all fun y=>y.2 != .free || (X.env.cells.lookup y.1).isSome)=true:=mW.mpr fun y hy=>by simp[(n' y hy).2]
 exact⟨k,fun y hy=>(n' y hy).1,lK l,iT al,al,rfl,fun i j h=>by simp at h,fun y h=>by simp at h⟩
theorem qt.mk1 {X:Cx} {x y:Str} {sc:Scope} {j:Nat} (hj:X.N[j]?=some y:=by rfl) (k:sc.kind=.function:=by rfl) (n:(sc.names.all fun y=>y.2 != .cell)=true:=by decide +kernel)
  (l:(sc.names.all fun y=>y.2 != .local || sc.names.lookup y.1==some .local)=true:=by decide +kernel) (al:(sc.names.all fun y=>y.2 != .free || (X.env.cells.lookup y.1).isSome)=true:=by rfl)
  (k1:X.env.kindOf y=some .cell:=by rfl) (k2:sc.names.lookup y=some .free:=by rfl):qt X [x,y] [j] sc:=by
 have n':∀y∈sc.names,y.2≠.cell:=fun y hy=>by have:=mW.mp n y hy; simpa using this
 refine⟨k,n',lK l,iT al,al,rfl,fun i j' h=>?_,fun z h=>?_⟩
 ·cases i with
  | zero=>simp at h; subst h; exact hj.symm
  | succ i=>simp at h
 ·have e:z=y:=by simpa using h
  subst e; exact⟨k1,k2⟩
theorem qt.mk2 {X:Cx} {x y z:Str} {sc:Scope} {j j2:Nat} (hj:X.N[j]?=some y:=by rfl) (hj2:X.N[j2]?=some z:=by rfl) (k:sc.kind=.function:=by rfl) (n:(sc.names.all fun y=>y.2 != .cell)=true:=by decide +kernel)
  (l:(sc.names.all fun y=>y.2 != .local || sc.names.lookup y.1==some .local)=true:=by decide +kernel) (al:(sc.names.all fun y=>y.2 != .free || (X.env.cells.lookup y.1).isSome)=true:=by rfl)
  (k1:X.env.kindOf y=some .cell:=by rfl) (k2:sc.names.lookup y=some .free:=by rfl) (k3:X.env.kindOf z=some .cell:=by rfl) (k4:sc.names.lookup z=some .free:=by rfl):qt X [x,y,z] [j,j2] sc:=by
 have n':∀y∈sc.names,y.2≠.cell:=fun y hy=>by have:=mW.mp n y hy; simpa using this
 refine⟨k,n',lK l,iT al,al,rfl,fun i j' h=>?_,fun v h=>?_⟩
 ·match i,h with
  | 0,h=>simp at h; subst h; exact hj.symm
  | 1,h=>simp at h; subst h; exact hj2.symm
  | i+2,h=>simp at h
 ·have e:v=y\/v=z:=by simpa using h
  rcases e with e | e
  ·subst e; exact⟨k1,k2⟩
  ·subst e; exact⟨k3,k4⟩
def b_:Expr->Bool
 | .Starred _ _=>false
 | _=>true
theorem bZ {env:Env} {e:Expr} {es:List Expr} (h:b_ e=true):starEach (e::es) env=(false,eval e env)::starEach es env:=by
 cases e <;> first | rfl | exact absurd h (by simp[b_])
theorem cJ {env:Env} {pos:Pos}:∀{es:List Expr},es.all b_=true->(backTo pos (starEach es env)).any (·.1)=false
 | [],_=>rfl
 | e::es,h=>by
  have h':b_ e=true/\es.all b_=true:=by simpa using h
  rw[bZ h'.1];show(false || (backTo pos (starEach es env)).any (·.1))=false;rw[cJ h'.2]; rfl
section
variable {X:Cx} {x:Str} {p pos:Pos} {e:Expr} {es:List Expr} {te:TE} {t:TA} {id T:String} {r:List V->Hp->VK->Prop}
theorem ak (ha:PE X e te) (hr:PA X es t) (h:b_ e=true:=by rfl):PA X (e::es) (oY te t):=O4 ha hr (bZ h)
theorem pf {k:Nat} {ps:List Str} {sp:Sp} (c:Ct X.prog X.w X.K X.mg X.base k x ps sp) (hr:dZ k X.A) (ha:PA X (e::es) t) (hg:Gl X x:=by rfl) (hdb:(x==("__debug__" : Str))=false:=by decide) (h1:b_ e=true:=by rfl) (h2:es.all b_=true:=by rfl) :
  PE X (.Call (.Name x p) (e::es) [] pos) (kI sp [] E0 t):=WD c hr ha hg hdb (bZ h1) (cJ h2)
theorem pb (hc:du X (.builtin id) r) (hm:X.mg x=none) (hv:bootBuiltins x=some (.builtin id)) (ha:PA X (e::es) t) (hg:Gl X x:=by rfl) (hn:x ≠ "__name__" := by decide) (hdb:(x==("__debug__" : Str))=false:=by decide)
  (h1:b_ e=true:=by rfl) (h2:es.all b_=true:=by rfl):PE X (.Call (.Name x p) (e::es) [] pos) (V3 r t):=KJ hc hg hm hv ha hn hdb (bZ h1) (cJ h2)
theorem pt (hc:du X (.type T) r) (hm:X.mg x=none) (hv:bootBuiltins x=some (.type T)) (ha:PA X (e::es) t) (hg:Gl X x:=by rfl) (hn:x ≠ "__name__" := by decide) (hdb:(x==("__debug__" : Str))=false:=by decide)
  (h1:b_ e=true:=by rfl) (h2:es.all b_=true:=by rfl):PE X (.Call (.Name x p) (e::es) [] pos) (V3 r t):=HN hc hg hm hv ha hn hdb (bZ h1) (cJ h2)
end
end L2
namespace HT
open PySem PyProof.Rows
section
variable {prog:Program} {w:World} {A:Around} {E:Value->Shared->Prop} {s:Shared}
theorem pQ {t sl:Addr} {items:Array Value} {vl vu:Value} {lo hi:Option Int} {Q:Value->Shared->Prop} (ht:IsTup s.heap t items) (hs:s.heap.IsSliceOf sl vl vu .none) (pl:IsPart vl lo) (pu:IsPart vu hi)
  (hw1:eX items.size 0 lo=0) (hw2:eX items.size items.size hi=items.size) (h:Q (.ref t) s):wpAny (model prog w) A (getItem (.ref t) (.ref sl)) Q E s:=by
 obtain⟨os,hos,hcs,hds⟩:=id hs;have tyS:s.TypeIs (.ref sl) "slice" := ⟨os,hos,hcs⟩;unfold getItem
 try with_reducible refine mV ?_
 first | refine aP (bW ?_) | skip
 refine aP (wpAny_sequenceKey ht.typeIs (by decide) ?_)
 refine aP (Hy (name:=Str.ofString "__getitem__") ht.typeIs PyProof.Rows.slot_tuple_getitem (Ba PyProof.Rows.slot_tuple_getitem ht.typeIs entry_tuple_getitem ?_ (args_tuple_getitem _ _)));show wpAny _ _ (Builtin.Tuple.tupleItemsOf (.ref t) >>= _) _ _ s;refine aP (tupleItemsOf_ ht ?_);refine aP (Be tyS ?_);rw[a_ (by decide)]
 refine aP (jG hs pl pu ?_)
 have yes:(((eX items.size 0 lo:Nat):Int)==0&&(1:Int)==1&&(eX items.size items.size hi-eX items.size 0 lo)==items.size)=true:=by
  rw[hw1,hw2]; simp
 show wpAny _ _ (if(((eX items.size 0 lo:Nat):Int)==0&&(1:Int)==1&&(eX items.size items.size hi-eX items.size 0 lo)==items.size)=true then _ else _) _ _ s
 rw[a_ yes]
 have ex:∀{R:Bool->Shared->Prop},R true s->wpAny (model prog w) A.in1 (Builtin.Tuple.tupleIsExact (.ref t)) R E s:=fun {R} q=>by
  unfold Builtin.Tuple.tupleIsExact;refine aP (Be ht.typeIs (bW ?_));rw[beq_self_eq_true];exact q
 refine aP (ex ?_);rw[a_ rfl];exact aP (Av (bW ⟨_,rfl,bW h⟩))
end
end HT
namespace L2
open PySem PySem.Spec PyProof.Rows
theorem wF:bootBuiltins "isinstance" = some (.builtin "isinstance"):=by decide +kernel
theorem eZ:bootBuiltins "len" = some (.builtin "len"):=by decide +kernel
theorem zW:bootBuiltins "all" = some (.builtin "all"):=by decide +kernel
theorem qU:bootBuiltins "sum" = some (.builtin "sum"):=by decide +kernel
theorem Mx:bootBuiltins "abs" = some (.builtin "abs"):=by decide +kernel
theorem lZ:bootBuiltins "min" = some (.builtin "min"):=by decide +kernel
theorem l_:bootBuiltins "max" = some (.builtin "max"):=by decide +kernel
theorem Mw:bootBuiltins "int" = some (.type "int"):=by decide +kernel
theorem Ul:bootBuiltins "str" = some (.type "str"):=by decide +kernel
theorem zU:bootBuiltins "list" = some (.type "list"):=by decide +kernel
theorem lY:bootBuiltins "tuple" = some (.type "tuple"):=by decide +kernel
theorem GZ:bootBuiltins "dict" = some (.type "dict"):=by decide +kernel
theorem Mv:bootBuiltins "range" = some (.type "range"):=by decide +kernel
theorem zV:bootBuiltins "enumerate" = some (.type "enumerate"):=by decide +kernel
theorem Uk:bootBuiltins "zip" = some (.type "zip"):=by decide +kernel
section
variable {X:Cx}
theorem pty {x:Str} {T:String} {pos:Pos} (hg:Gl X x) (hm:X.mg x=none) (hv:bootBuiltins x=some (.type T)) (hn:x ≠ "__name__" := by decide) (hd:(x==("__debug__" : Str))=false:=by decide):PE X (.Name x pos) (tC (.ty T)):=
 O3 (v:=.ty T) hg hm hv rfl hn hd
def Z9 (K:PySem.W.Frag):List V->Hp->VK->Prop:=fun vs H Q=>∃(p:Addr) (ys:List V),vs=[.ref p]/\(cV K H p ys\/fW K H p ys)/\Q (.int ys.length) H
theorem cX {K:PySem.W.Frag} (hK:X.K=K):du X (.builtin "len") (Z9 K):=by
 subst hK;exact zP
def Z5:V->Option Int->Option Int->Hp->VK->Prop:=fun x lo hi H Q=>∃(a:Addr) (xs:List V),x=.ref a/\H a=some (.tup xs)/\∀p H',aL H H'->H' p=some (.tup (sy xs lo hi))->Q (.ref p) H'
theorem jT:Us X Z5:=by
 refine .mk ?_;intro pins s σ H x v vl vu lo hi sl Q I rx hs pl pu h;obtain⟨a,xs,e,hx,q⟩:=h;by_cases hw:HT.eX xs.length 0 lo=0/\HT.eX xs.length xs.length hi=xs.length
 ·subst e;cases rx;obtain⟨its,r,ht,hz⟩:=I.tuple (fW.of (K:=X.K) hx);have hlen:its.toArray.size=xs.length:=by rw[eG]; exact r.length.symm
  refine⟨"tuple",_,PyProof.Rows.slot_tuple_getitem.lookup,ht.typeIs,?_⟩;refine HT.pQ ht hs pl pu (by rw[hlen]; exact hw.1) (by rw[hlen]; exact hw.2) ⟨.ref a,H,I,rfl,q a H (aL.refl H) ?_⟩
  rw[hx];unfold sy;rw[hw.1,hw.2,List.drop_zero,Nat.sub_zero,nY]
 ·exact RP pins s σ H x v vl vu lo hi sl Q I rx hs pl pu ⟨a,xs,e,fW.of hx,hw,fun p hp=>q p _ (aN hp _) aA⟩
def Wv:R2:=fun x y H Q=>∃(a b:Addr) (xs ys:List V),x=.ref a/\y=.ref b/\H a=some (.tup xs)/\H b=some (.tup ys)/\xs.length+ys.length<=sizeLine/\∀p H',aL H H'->H' p=some (.tup (xs++ys))->Q (.ref p) H'
theorem sY:mj X (binaryOp .Add) Wv:=by
 refine .mk ?_;intro pins s σ H x y v u Q I rx ry h;obtain⟨a,b,xs,ys,e1,e2,ha,hb,hz,q⟩:=h;by_cases hx:xs=[]
 ·subst hx e1 e2;cases rx;cases ry;obtain⟨its,r1,p1,_⟩:=I.tuple (fW.of (K:=X.K) ha);obtain⟨its2,r2,p2,_⟩:=I.tuple (fW.of (K:=X.K) hb);cases r1;obtain⟨⟨cls,dd,data,sl⟩,ho,hc,n,hd⟩:=id p1;obtain⟨⟨cls2,dd2,data2,sl2⟩,ho2,hc2,n2,hd2⟩:=id p2;simp only at hc hd hc2 hd2;subst hc hd hc2 hd2;exact concat_meets ⟨_,ho,rfl⟩ ⟨_,ho2,rfl⟩ noFill_tuple_add seq_tuple_add PySem.F.slot_tuple_add PySem.F.entry_tuple_add (PySem.F.args_tuple_add_2 _ _) (tuple_addW0 a b _ _ n n2 dd dd2 sl sl2 (by rfl)) ⟨ho,ho2,⟨.ref b,H,I,rfl,q b H (aL.refl H) hb⟩⟩
 ·refine O6 pins s σ H x y v u Q I rx ry ⟨a,b,xs,ys,e1,e2,fW.of ha,fW.of hb,hx,hz,fun z=>?_,fun _ p hp=>q p _ (aN hp _) aA⟩;subst z;exact q a H (aL.refl H) (by rw[ha,Ax])
def Oe:R2:=fun x y H Q=>∃(p:Addr) (xs:List V) (i:Int) (v:V),x=.ref p/\y=.int i/\(H p=some (.lst xs)\/H p=some (.tup xs))/\Ck xs i=some v/\Q v H
theorem bf:Jy X Oe:=by
 have h:=(Gu (X:=X)).or Tj;refine .mk ?_;intro a b pins s σ H x y v u Q I rx ry q;obtain⟨p,xs,i,z,e1,e2,hp,ha,q⟩:=q;intro hs;refine h a b pins s σ H x y v u Q I rx ry ?_ hs;rcases hp with hp | hp
 ·exact .inl ⟨p,xs,i,z,e1,e2,cV.of hp,ha,q⟩
 ·exact .inr ⟨p,xs,i,z,e1,e2,fW.of hp,ha,q⟩
theorem Ix.tup {a:Addr} {xs:List V} {i:Int} {v:V} {H:Hp} {Q:VK} (h:H a=some (.tup xs)) (e:Ck xs i=some v) (q:Q v H):Oe (.ref a) (.int i) H Q:=⟨a,xs,i,v,rfl,rfl,.inr h,e,q⟩
theorem Ix.lst {a:Addr} {xs:List V} {i:Int} {v:V} {H:Hp} {Q:VK} (h:H a=some (.lst xs)) (e:Ck xs i=some v) (q:Q v H):Oe (.ref a) (.int i) H Q:=⟨a,xs,i,v,rfl,rfl,.inl h,e,q⟩
theorem Mi {js:List Nat} {ta:TA} {te:TE} {σ:St} {H:Hp} {Q:VK} {n:Nat} (hl:∀R:List V->Hp->Prop,R [.int n] H->ta σ H R) (hn:n<=1000000)
  (h:∀acc,H acc=none->∃Pv:Nat->List V->Hp->Prop,Pv 0 [] (upd H acc (.lst [])) /\
   (∀i ys H',i<n->Pv i ys H'->te (some (.int (0+(i:Nat)))::cH js σ) H' fun y qj=>qj acc=some (.lst ys)/\ys.length<sizeLine/\Pv (i+1) (ys++[y]) (upd qj acc (.lst (ys++[y])))) /\
   ∀ys H',Pv n ys H'->Q (.ref acc) H'):ir js (xq ta) te σ H Q:=by
 refine hl _ ⟨n,rfl,by omega,by omega,fun acc hacc=>?_⟩
 obtain⟨Pv,h0,hs,hd⟩:=h acc hacc;have en:((n:Int)).toNat=n:=vP n;rw[en];refine⟨fun i m ys H'=>m=n-i/\i<=n/\Pv i ys H',⟨n,rfl,iY _,h0⟩,?_⟩;rintro i m ys H2 ⟨rfl,hi,p⟩;by_cases hlt:i<n
 ·refine .inr ⟨hlt,fun x H3 y=>?_⟩;obtain⟨e,y⟩:=y;subst e y;have Qv:=hs i ys _ hlt p
  have fe:(fun(y:V) (qj:Hp)=>qj acc=some (.lst ys)/\ys.length<sizeLine/\Pv (i+1) (ys++[y]) (upd qj acc (.lst (ys++[y]))))=fun y H4=>H4 acc=some (.lst ys)/\ys.length<sizeLine/\∃m',m'<n-i/\(m'=n-(i+1)/\i+1<=n/\Pv (i+1) (ys++[y]) (upd H4 acc (.lst (ys++[y])))):=by
   funext y qj
   refine propext ⟨fun⟨a,b,c⟩=>⟨a,b,_,by omega,rfl,hlt,c⟩,fun⟨a,b,m',_,_,_,c⟩=>⟨a,b,c⟩⟩
  rw[fe] at Qv;exact Qv
 ·have e:i=n:=by omega
  subst e;exact .inl ⟨bG _,hd ys _ p⟩
theorem jP:du X (.type "tuple") (fun vs H Q=>∃(p:Addr) (ys:List V),vs=[.ref p]/\H p=some (.lst ys)/\∀l,H l=none->Q (.ref l) (upd H l (.tup ys))):=by
 refine .mk ?_;intro pins s σ H vs us Q I r h;obtain⟨p,ys,e,hp,q⟩:=h;exact wC pins s σ H vs us Q I r ⟨p,ys,e,.inl ⟨cV.of hp,q⟩⟩
theorem Jj:du X (.type "list") (fun vs H Q=>∃(p:Addr) (ys:List V),vs=[.ref p]/\H p=some (.tup ys)/\∀l,H l=none->Q (.ref l) (upd H l (.lst ys))):=by
 refine .mk ?_;intro pins s σ H vs us Q I r h;obtain⟨p,ys,e,hp,q⟩:=h;exact p_ pins s σ H vs us Q I r ⟨p,ys,e,.inr (fW.of hp),q⟩
theorem Xq {ta:TA} {g:TG} {tb:TS} {D:Ends} {σ:St} {H:Hp} {n:Nat} (hl:∀R:List V->Hp->Prop,R [.int n] H->ta σ H R) (hn:n<=1000000) (Pv:Nat->St->Hp->Prop) (h0:Pv 0 σ H)
  (hs:∀i σ H,i<n->Pv i σ H->g (.int (0+(i:Nat))) σ H fun σ2 H2=>tb { D with nx:=Pv (i+1),ct:=Pv (i+1),bk:=D.nx } σ2 H2) (hd:∀σ H,Pv n σ H->D.nx σ H):CZ (xq ta) g tb D σ H:=by
 refine hl _ ⟨n,rfl,by omega,by omega,?_⟩
 rw[vP];exact xx Pv h0 hs hd
def rm (t:TA):TE:=fun σ H Q=>t σ H fun xs H1=>xs.length<=sizeLine/\∀p H',H1 p=none->aL H1 H'->H' p=some (.lst xs)->Q (.ref p) H'
def Qw (t:TA):TE:=fun σ H Q=>t σ H fun xs H1=>xs.length<=sizeLine/\∀p H',H1 p=none->aL H1 H'->H' p=some (.tup xs)->Q (.ref p) H'
theorem bV {es:List Expr} {t:TA} {pos:Pos} (h:PA X es t):PE X (.List es pos) (rm t):=by
 refine .mk ?_;intro pins s σ H Q I hq;refine wpAny_List_spliced (cz (h pos pins s σ H _ I hq) fun us s1 ⟨xs,H1,I1,r,z,q⟩=>⟨by rw[<- r.length]; exact z,?_⟩)
 have fr:H1 s1.heap.objs.size=none:=I1.hok.fresh (bG _);exact⟨.ref s1.heap.objs.size,upd H1 s1.heap.objs.size (.lst xs),I1.laid (t':=s1.toks) (fun b u e=>e_ _ e) (bG _) ⟨z,us,0,r,dN _ rfl⟩,rfl,q _ _ fr (aN fr _) aA⟩
theorem bj {es:List Expr} {t:TA} {x1} {pos:Pos} (h:PA X es t):PE X (.Tuple es x1 pos) (Qw t):=by
 refine .mk ?_;intro pins s σ H Q I hq;refine wpAny_Tuple_spliced (cz (h pos pins s σ H _ I hq) fun us s1 ⟨xs,H1,I1,r,z,q⟩=>⟨by rw[<- r.length]; exact z,?_⟩)
 have fr:H1 s1.heap.objs.size=none:=I1.hok.fresh (bG _);exact⟨.ref s1.heap.objs.size,upd H1 s1.heap.objs.size (.tup xs),I1.laid (t':=s1.toks) (fun b u e=>e_ _ e) (bG _) ⟨z,us,r,⟨_,dN _ rfl,rfl,_,rfl⟩⟩,rfl,q _ _ fr (aN fr _) aA⟩
def hid (a:Addr) (H:Hp):Hp:=fun b=>if b=a then none else H b
theorem cg {a b:Addr} {H:Hp} (h:b≠a):hid a H b=H b:=aV h
theorem lQ {a:Addr} {H:Hp}:hid a H a=none:=a_ rfl
theorem jM {a b:Addr} {H:Hp} {o:HO} (h:hid a H b=some o):b≠a/\H b=some o:=by
 by_cases e:b=a
 ·subst e; rw[lQ] at h; cases h
 ·exact⟨e,by rw[cg e] at h; exact h⟩
theorem mK {a:Addr} {H:Hp} {o:HO}:hid a (upd H a o)=hid a H:=by
 funext b
 by_cases e:b=a
 ·subst e; rw[lQ,lQ]
 ·rw[cg e,cg e,aJ e]
theorem cM {a p:Addr} {H:Hp} {o:HO} (h:p≠a):hid a (upd H p o)=upd (hid a H) p o:=by
 funext b
 by_cases e:b=a
 ·subst e; rw[lQ,aJ (Ne.symm h),lQ]
 ·rw[cg e];by_cases e':b=p
  ·subst e'; rw[aA,aA]
  ·rw[aJ e',aJ e',cg e]
theorem dW {a:Addr} {H:Hp}:aL (hid a H) H:=fun b o h=>(jM h).2
def SX (a:Addr) (H H':Hp):Prop:=aL (hid a H) (hid a H')
theorem SX.refl (a:Addr) (H:Hp):SX a H H:=aL.refl _
theorem SX.trans {a:Addr} {H H1 H2:Hp} (x:SX a H H1) (y:SX a H1 H2):SX a H H2:=aL.trans x y
theorem SX.of {a:Addr} {H H':Hp} (s:aL H H'):SX a H H':=fun b o h=>by
 obtain⟨n,e⟩:=jM h;rw[cg n]; exact s _ _ e
theorem SX.upd {a:Addr} {H:Hp} {o:HO}:SX a H (upd H a o):=by unfold SX; rw[mK]; exact aL.refl _
theorem SX.get {a b:Addr} {H H':Hp} {o:HO} (s:SX a H H') (n:b≠a) (h:H b=some o):H' b=some o:=by
 have:=s b o (by rw[cg n]; exact h)
 exact(jM this).2
def Tp (H:Hp) (a:Addr) (n:Nat):Prop:=∃x y z:Int,H a=some (.lst [.int x,.int y,.int z])/\0<=x/\0<=y/\y<4611686018427387904/\0<=z/\z<=n
theorem Tp.mono {H:Hp} {a:Addr} {n m:Nat} (h:Tp H a n) (l:n<=m):Tp H a m:=by
 obtain⟨x,y,z,e,h1,h2,h3,h4,h5⟩:=h;exact⟨x,y,z,e,h1,h2,h3,h4,by omega⟩
theorem Tp.same {H H':Hp} {a:Addr} {n:Nat} (h:Tp H a n) (s:aL H H'):Tp H' a n:=by
 obtain⟨x,y,z,e,r⟩:=h;exact⟨x,y,z,s _ _ e,r⟩
theorem Tp.ne {H:Hp} {a b:Addr} {n:Nat} (h:Tp H a n) (e:H b=none):b≠a:=by
 obtain⟨x,y,z,q,_⟩:=h;intro z; subst z; rw[e] at q; cases q
theorem Tp.neT {H:Hp} {a b:Addr} {n:Nat} {xs:List V} (h:Tp H a n) (e:H b=some (.tup xs)):b≠a:=by
 obtain⟨x,y,z,q,_⟩:=h;intro z; subst z; rw[e] at q; cases q
theorem aL.hid {a:Addr} {H H':Hp} (s:aL H H'):aL (L2.hid a H) (L2.hid a H'):=fun b o h=>by
 obtain⟨n,e⟩:=jM h;rw[cg n]; exact s _ _ e
theorem SX.eV {a p:Addr} {H H':Hp} {o:HO} (s:SX a H H') (hp:H p=none) (pa:p≠a):SX a H (L2.upd H' p o):=fun b u h=>by
 obtain⟨n,e⟩:=jM h;rw[cM pa,aJ (cC e hp)];exact s b u h
theorem Tp.eV {H:Hp} {a p:Addr} {n:Nat} {o:HO} (t:Tp H a n) (pa:p≠a):Tp (L2.upd H p o) a n:=by
 obtain⟨x,y,z,e,r⟩:=t;exact⟨x,y,z,by rw[aJ (Ne.symm pa)]; exact e,r⟩
def M8 (K:PySem.W.Frag) (H:Hp) (p:Addr) (xs:List V):Prop:=(∃o,H p=some (.rG o (.lst xs))) \/
 ∃(o:Obj) (its:Array Value) (n:Nat),K.lookup p=some o/\o.cls=.type "list" /\ o.dict=none/\o.data=.seq its n/\its.size<=sizeLine/\Vals xs its.toList
theorem M8.sq {K:PySem.W.Frag} {H:Hp} {p:Addr} {xs:List V} (h:M8 K H p xs):cV K H p xs:=by
 rcases h with⟨o,h⟩ | h
 ·exact .inl (.inr ⟨o,h⟩)
 ·exact .inr h
theorem M8.of {K:PySem.W.Frag} {H:Hp} {p:Addr} {xs:List V} (h:cV K H p xs) (o:Only H):M8 K H p xs:=by
 rcases h with(h | h) | h
 ·rcases o p with e | ⟨ob,ys,e⟩
  ·rw[e] at h; cases h
  ·rw[e] at h; cases h
 ·exact .inl h
 ·exact .inr h
theorem M8.same {K:PySem.W.Frag} {H H':Hp} {p:Addr} {xs:List V} (h:M8 K H p xs) (s:aL H H'):M8 K H' p xs:=by
 rcases h with⟨o,h⟩ | h
 ·exact .inl ⟨o,s _ _ h⟩
 ·exact .inr h
end
mutual
def fine (b:Nat):PyData->Bool
 | .none=>true
 | .bool _=>true
 | .int i=>decide (i.natAbs<=b)
 | .str x=>decide (x.length<=40)&&x.cps.toList.all fun c=>decide (c<4294967296)
 | .tuple ds=>zu b ds
 | .list ds=>zu b ds
 | .dict _=>false
def zu (b:Nat):List PyData->Bool
 | []=>true
 | d::ds=>fine b d&&zu b ds
end
mutual
def W3:PyData->Nat
 | .tuple ds=>tu ds+3
 | .list ds=>tu ds+3
 | .dict _=>500
 | .none=>500
 | .bool _=>500
 | .int _=>500
 | .str _=>500
def tu:List PyData->Nat
 | []=>0
 | d::ds=>W3 d+2+tu ds
end
structure agh (b D M:Nat) (d:PyData):Prop where
 f:fine b d=true
 dp:d.depth<=D
 m:W3 d<=M
structure Ze (b D M:Nat) (ds:List PyData):Prop where
 f:∀d∈ds,fine b d=true
 dp:∀d∈ds,d.depth<=D
 m:tu ds<=M
section
variable {X:Cx}
end
theorem zH {xs:List V} {i:Int} (h:0<=i):sy xs none (some i)=xs.take i.toNat:=by
 obtain⟨j,rfl⟩:∃j:Nat,i=j:=⟨i.toNat,by omega⟩
 unfold sy;rw[HT.An,HT.F_,List.drop_zero,Nat.sub_zero,vP];by_cases q:j<=xs.length
 ·rw[Nat.min_eq_left q]
 ·rw[Nat.min_eq_right (by omega),nY,Kq (by omega)]
theorem pX {xs:List V} {i:Int} (h:0<=i):sy xs (some i) none=xs.drop i.toNat:=by
 obtain⟨j,rfl⟩:∃j:Nat,i=j:=⟨i.toNat,by omega⟩
 unfold sy;rw[HT.An,HT.F_,vP];by_cases q:j<=xs.length
 ·rw[Nat.min_eq_left q,Kq (by rw[Az]; omega)]
 ·rw[Nat.min_eq_right (by omega),Du,List.take_nil,List.drop_of_length_le (by omega)]
section
variable {X:Cx}
theorem yM (hu:X.A.units+64<cLine):mj X (compareOp .NotEq) (fun x y H Q=>∃d e,At H d x/\At H e y/\d.hasDict=false/\e.hasDict=false/\d.canLay0=true/\e.canLay0=true/\d.depth<=60/\Q (.bl (!PyData.eqv d e)) H):=by
 refine .mk ?_;intro pins s σ H x y v u Q I rx ry h;obtain⟨d,e,hd,he,n1,n2,c1,c2,dp,q⟩:=h;obtain⟨as,r1⟩:=lE I.hok _ _ _ hd rx n1;obtain⟨bs,r2⟩:=lE I.hok _ _ _ he ry n2;exact SeqAt.compareNe_reads r1 r2 c1 c2 (by have:=Nat.min_le_left d.depth e.depth; omega) (bF I q rfl)
theorem Sx (hu:X.A.units+64<cLine):mj X (compareOp .Eq) (fun x y H Q=>∃d e,At H d x/\At H e y/\d.hasDict=false/\e.hasDict=false/\d.canLay0=true/\e.canLay0=true/\d.depth<=60/\Q (.bl (PyData.eqv d e)) H):=by
 refine .mk ?_;intro pins s σ H x y v u Q I rx ry h;obtain⟨d,e,hd,he,n1,n2,c1,c2,dp,q⟩:=h;obtain⟨as,r1⟩:=lE I.hok _ _ _ hd rx n1;obtain⟨bs,r2⟩:=lE I.hok _ _ _ he ry n2;exact SeqAt.compareEq_reads r1 r2 c1 c2 (by have:=Nat.min_le_left d.depth e.depth; omega) (bF I q rfl)
end
def FK (g:TG) (tb:TS) (D:Ends) (σ:St) (vs:List V) (H1:Hp):Prop:=∃j:Int,vs=[.int j]/\-(2 ^ 62)<=j/\j<2 ^ 62/\∃W:Nat->Nat->St->Hp->Prop,(∃m,W 0 m σ H1)/\∀i m σ H,W i m σ H ->
 ((Jz 0 j.toNat).stop i H/\D.nx σ H)\/((Jz 0 j.toNat).go i H/\∃N:St->Hp->Prop,(∀σ' H',N σ' H'->∃m',m'<m/\W (i+1) m' σ' H')/\∀x H',(Jz 0 j.toNat).Fi i H x H'->g x σ H' fun σ2 H2=>tb { D with nx:=N,ct:=N,bk:=D.nx } σ2 H2)
theorem tU {ta:TA} {g:TG} {tb:TS} {D:Ends} {σ:St} {H:Hp}:CZ (xq ta) g tb D σ H=ta σ H (FK g tb D σ):=rfl
theorem FK.of {g:TG} {tb:TS} {D:Ends} {σ:St} {H:Hp} {n:Nat} {i:Int} (ei:i=n) (hn:n<=1000000) (Pv:Nat->St->Hp->Prop) (h0:Pv 0 σ H)
  (hs:∀i σ H,i<n->Pv i σ H->g (.int (0+(i:Nat))) σ H fun σ2 H2=>tb { D with nx:=Pv (i+1),ct:=Pv (i+1),bk:=D.nx } σ2 H2) (hd:∀σ H,Pv n σ H->D.nx σ H):FK g tb D σ [.int i] H:=by
 subst ei;refine⟨n,rfl,by omega,by omega,?_⟩
 rw[vP];exact xx Pv h0 hs hd
def TK (K:PySem.W.Frag) (g:TG) (tb:TS) (D:Ends) (σ:St) (x:V) (H1:Hp):Prop:=∃a,x=.ref a/\(∃xs,fW K H1 a xs)/\∃W:Nat->Nat->St->Hp->Prop,(∃m,W 0 m σ H1)/\∀i m σ H,W i m σ H ->
 ((Rg K a).stop i H/\D.nx σ H)\/((Rg K a).go i H/\∃N:St->Hp->Prop,(∀σ' H',N σ' H'->∃m',m'<m/\W (i+1) m' σ' H')/\∀x H',(Rg K a).Fi i H x H'->g x σ H' fun σ2 H2=>tb { D with nx:=N,ct:=N,bk:=D.nx } σ2 H2)
theorem JT {K:PySem.W.Frag} {tl:TE} {g:TG} {tb:TS} {D:Ends} {σ:St} {H:Hp}:CZ (IK K tl) g tb D σ H=tl σ H (TK K g tb D σ):=rfl
theorem TK.of {K:PySem.W.Frag} {g:TG} {tb:TS} {D:Ends} {σ:St} {H:Hp} {a:Addr} {xs:List V} (ha:H a=some (.tup xs)) (Pv:Nat->St->Hp->Prop) (h0:Pv 0 σ H) (hl:∀i σ H',i<=xs.length->Pv i σ H'->H' a=some (.tup xs))
  (hs:∀i x σ H,xs[i]?=some x->Pv i σ H->g x σ H fun σ2 H2=>tb { D with nx:=Pv (i+1),ct:=Pv (i+1),bk:=D.nx } σ2 H2) (hd:∀σ H,Pv xs.length σ H->D.nx σ H):TK K g tb D σ (.ref a) H:=
 ⟨a,rfl,⟨xs,fW.of ha⟩,P_ (xs:=xs) Pv h0 (fun i σ H' hi p=>fW.of (hl i σ H' hi p)) hs hd⟩
def CK (js:List Nat) (te:TE) (σ:St) (Q:VK) (vs:List V) (H1:Hp):Prop:=∃j:Int,vs=[.int j]/\-(2 ^ 62)<=j/\j<2 ^ 62/\∀acc,H1 acc=none->∃W:Nat->Nat->List V->Hp->Prop,(∃m,W 0 m [] (upd H1 acc (.lst [])))/\∀i m ys H2,W i m ys H2 ->
 ((Jz 0 j.toNat).stop i H2/\Q (.ref acc) H2)\/((Jz 0 j.toNat).go i H2/\∀x H3,(Jz 0 j.toNat).Fi i H2 x H3->te (some x::cH js σ) H3 fun y H4=>H4 acc=some (.lst ys)/\ys.length<sizeLine/\∃m',m'<m/\W (i+1) m' (ys++[y]) (upd H4 acc (.lst (ys++[y]))))
theorem qu {js:List Nat} {ta:TA} {te:TE} {σ:St} {H:Hp} {Q:VK}:ir js (xq ta) te σ H Q=ta σ H (CK js te σ Q):=rfl
theorem CK.of {js:List Nat} {te:TE} {σ:St} {H:Hp} {Q:VK} {n:Nat} {i:Int} (ei:i=n) (hn:n<=1000000)
  (h:∀acc,H acc=none->∃Pv:Nat->List V->Hp->Prop,Pv 0 [] (upd H acc (.lst [])) /\
   (∀i ys H',i<n->Pv i ys H'->te (some (.int (0+(i:Nat)))::cH js σ) H' fun y qj=>qj acc=some (.lst ys)/\ys.length<sizeLine/\Pv (i+1) (ys++[y]) (upd qj acc (.lst (ys++[y])))) /\
   ∀ys H',Pv n ys H'->Q (.ref acc) H'):CK js te σ Q [.int i] H:=by
 subst ei;have:=Mi (ta:=fun _ H R=>R [.int n] H) (σ:=σ) (H:=H) (Q:=Q) (js:=js) (te:=te) (n:=n) (fun R hR=>hR) hn h;exact this
def Gs (mg:Str->Option Value) (x:Str) (i:Str):Prop:=∃t,mg x=some (.str i t)
theorem yF {X:Cx} {x:Str} {i:Str} {pos:Pos} (h:Gs X.mg x i) (hg:Gl X x:=by rfl) (hd:(x==("__debug__" : Str))=false:=by decide):PE X (.Name x pos) (tC (.str i)):=by
 obtain⟨t,ht⟩:=h;exact yH hg ht ⟨t,rfl⟩ hd
def mZ (b:Int):List Int->Int
 | []=>b
 | x::r=>mZ (if x>b then x else b) r
section
variable {prog:Program} {w:World} {A:Around} {R:Result->Shared->Prop} {It:Addr} {fp wr:List Addr} {n:Nat} {Pv:Nat->Value->Prop} {St:Nat->Heap->Prop}
theorem Lf {ns:List Int} (W:Walks prog w A.in1 It fp wr n Pv St) (hn:n=ns.length) (hv:∀i v,Pv i v->∃t,v=.int (ns.getD i 0) t) (C:Addr) (nf:C∉fp) (d:Value):∀(m j:Nat) (z:Shared) (best:Int) (tb:Tok) (c:Nat),ns.length-j=m->j<=ns.length->St j z.heap ->
  z.heap.get? C=some ⟨.type "list",none,.seq #[.int best tb,.int best tb] c,#[]⟩ ->
  (∀t h' tk,(∀b o,b∉wr->b≠C->z.heap.get? b=some o->h'.get? b=some o)->R (.ok (.ret (.int (mZ best (ns.drop j)) t))) { z with heap:=h',toks:=tk }) ->
  codeAny (model prog w) A (.builtin "max.loop" ⟨[.ref It,.none,.ref C],[("default",d)]⟩) R z:=by
 subst hn;have nw:C∉wr:=fun q=>nf (W.sub _ q);have nm:(toString "max" ++ toString ".loop" : String) = "max.loop" := by decide
 intro m
 induction m with
 | zero=>
  intro j z best tb c hm hj st hC fin;have e:j=ns.length:=by omega
  subst e;refine codeAny_builtin PySem.F.entry_max_loop ?_;rw[Around.under_plainId PySem.F.plain_max_loop _];show wpAny _ A.in1 (seqItems? (.ref C) >>= _) _ _ z;refine aP (rO hC rfl ?_);show wpAny _ A.in1 (tryCatch (pyNext (.ref It)) _ >>= _) _ _ z;refine aP (Hu (W.done z _ _ st fun h' tk kp=>?_));refine aP (wpAny_updateSeq (kp C _ nw hC) rfl (aP (Dp (bW ?_))));rw[Du] at fin;exact fin tb _ tk fun b o h1 h2 h3=>(DN _ _ (Ne.symm h2)).trans (kp b o h1 h3)
 | succ m ih=>
  intro j z best tb c hm hj st hC fin;have lt:j<ns.length:=by omega
  refine codeAny_builtin PySem.F.entry_max_loop ?_;rw[Around.under_plainId PySem.F.plain_max_loop _];show wpAny _ A.in1 (seqItems? (.ref C) >>= _) _ _ z;refine aP (rO hC rfl ?_);show wpAny _ A.in1 (tryCatch (pyNext (.ref It)) _ >>= _) _ _ z;refine aP (Hu (W.item j z _ _ lt st fun v h' tk hP st' kp=>?_));obtain⟨t,rfl⟩:=hv j v hP;have hC':=kp C _ nw hC;show wpAny _ A.in1 (tryCatch (holding [_,_] (richCompare .Gt _ (.int best tb) >>= _)) _ >>= _) _ _ _;refine aP (Hu (mV (aP (richCompare_gives (op:=.Gt) (typeIs_int _ _ t) (typeIs_int _ _ tb) PySem.F.slot_int_gt PySem.F.entry_int_gt (PySem.F.args_int_gt_2 _ _) (gives_int_gt _ _ t tb) (fun x=>nomatch x) ?_))))
  refine aP (mV (Dw (aP (Dp (bW ?_)))))
  have dr:ns.drop j=ns.getD j 0::ns.drop (j+1):=by
   rw[Hz lt,nQ,gG lt]; rfl
  rw[dr] at fin;by_cases hb:ns.getD j 0>best
  ·have e1:mZ best (ns.getD j 0::ns.drop (j+1))=mZ (ns.getD j 0) (ns.drop (j+1)):=by rw[mZ,a_ hb]
   rw[e1] at fin;rw[nW hb];simp only[if_true];refine aP (wpAny_updateSeq hC' rfl (aP (Dp ?_)));rw[nm];refine bW ⟨plainId_quiet PySem.F.plain_max_loop _,ih (j+1) _ _ t _ (by omega) lt (W.frame _ _ _ st' fun b hb o e=>?_) (Heap.get?_update_self _ hC' rfl) fun t2 h2 tk2 k2=>?_⟩
   ·exact(DN _ _ (fun q:C=b=>nf (by rw[q]; exact hb))).trans e
   ·exact fin t2 h2 tk2 fun b o h1 h3 e=>k2 b o h1 h3 ((DN _ _ (Ne.symm h3)).trans (kp b o h1 e))
  ·have e1:mZ best (ns.getD j 0::ns.drop (j+1))=mZ best (ns.drop (j+1)):=by rw[mZ,aV hb]
   rw[e1] at fin;rw[lG hb];simp only[Dy,if_false];refine aP (Dp ?_);rw[nm];refine bW ⟨plainId_quiet PySem.F.plain_max_loop _,ih (j+1) _ best tb c (by omega) lt st' hC' fun t2 h2 tk2 k2=>?_⟩
   exact fin t2 h2 tk2 fun b o h1 h3 e=>k2 b o h1 h3 (kp b o h1 e)
theorem Ik {ns:List Int} (W:Walks prog w A.in1 It fp wr n Pv St) (hn:n=ns.length) (hv:∀i v,Pv i v->∃t,v=.int (ns.getD i 0) t) (C:Addr) (nf:C∉fp) (d:Value) (z:Shared) (c:Nat) (st:St 0 z.heap)
  (hC:z.heap.get? C=some ⟨.type "list",none,.seq #[] c,#[]⟩)
  (f0:ns=[]->∀h' tk,(∀b o,b∉wr->b≠C->z.heap.get? b=some o->h'.get? b=some o)->R (.ok (.ret d)) { z with heap:=h',toks:=tk })
  (f1:∀x r,ns=x::r->∀t h' tk,(∀b o,b∉wr->b≠C->z.heap.get? b=some o->h'.get? b=some o)->R (.ok (.ret (.int (mZ x r) t))) { z with heap:=h',toks:=tk }) :
  codeAny (model prog w) A (.builtin "max.loop" ⟨[.ref It,.none,.ref C],[("default",d)]⟩) R z:=by
 have nw:C∉wr:=fun q=>nf (W.sub _ q);have nm:(toString "max" ++ toString ".loop" : String) = "max.loop" := by decide
 refine codeAny_builtin PySem.F.entry_max_loop ?_;rw[Around.under_plainId PySem.F.plain_max_loop _];show wpAny _ A.in1 (seqItems? (.ref C) >>= _) _ _ z;refine aP (rO hC rfl ?_);show wpAny _ A.in1 (tryCatch (pyNext (.ref It)) _ >>= _) _ _ z;cases ns with
 | nil=>
  subst hn;refine aP (Hu (W.done z _ _ st fun h' tk kp=>?_));show wpAny _ A.in1 (rule _ >>= _) _ _ _;exact aP (Av (bW (f0 rfl h' tk fun b o h1 _ e=>kp b o h1 e)))
 | cons x r=>
  refine aP (Hu (W.item 0 z _ _ (by rw[hn]; exact Nat.succ_pos _) st fun v h' tk hP st' kp=>?_))
  obtain⟨t,e⟩:=hv 0 v hP;have e:v=.int x t:=e;subst e;have hC':=kp C _ nw hC;show wpAny _ A.in1 (updateSeq C (fun _=>#[Value.int x t,Value.int x t]) >>= _) _ _ _;refine aP (wpAny_updateSeq hC' rfl ?_);rw[nm];refine bW ⟨plainId_quiet PySem.F.plain_max_loop _,Lf W hn hv C nf d _ 1 _ x t _ rfl (by simp) (W.frame _ _ _ st' fun b hb o e=>?_) (Heap.get?_update_self _ hC' rfl) fun t2 h2 tk2 k2=>?_⟩
  ·exact(DN _ _ (fun q:C=b=>nf (by rw[q]; exact hb))).trans e
  ·exact f1 x r rfl t2 h2 tk2 fun b o h1 h3 e=>k2 b o h1 h3 ((DN _ _ (Ne.symm h3)).trans (kp b o h1 e))
end
theorem Jo (a v:Value):argsOk "max" ⟨[a],[("default",v)]⟩:=by unfold argsOk; kernel_rfl
section
variable {prog:Program} {w:World} {A:Around} {E:Value->Shared->Prop} {s:Shared}
theorem Ji {l:Addr} {its:List Value} {ns:List Int} {d:Value} {Q:Value->Shared->Prop} (hh:A.handled=none) (hl:s.heap.IsList l its.toArray) (hi:∀i v,its[i]?=some v->∃t,v=Value.int (ns.getD i 0) t) (hlen:its.length=ns.length)
  (h0:ns=[]->∀h' tk,(∀b o,s.heap.get? b=some o->h'.get? b=some o)->Q d { s with heap:=h',toks:=tk })
  (h1:∀b r,ns=b::r->∀t h' tk,(∀b o,s.heap.get? b=some o->h'.get? b=some o)->Q (Value.int (mZ b r) t) { s with heap:=h',toks:=tk }) :
  wpAny (model prog w) A (call (.builtin "max") [.ref l] [("default",d)]) Q E s:=by
 have nm:(toString "max" ++ toString ".loop" : String) = "max.loop" := by decide
 have lt:l<s.heap.objs.size:=by obtain⟨_,e,_⟩:=hl; exact b8 e
 refine kmk_tree PySem.F.kind_max PySem.F.plain_max PySem.F.entry_max (Jo _ _) ?_;show wpAny _ A.in1 (Builtin.Builtins.bindParams "max" ["key","default"] 0 ⟨[],[("default",d)]⟩ >>= _) _ _ s;refine aP (vN (show Builtin.Builtins.bindParams "max" ["key","default"] 0 ⟨[],[("default",d)]⟩=pure [none,some d] from rfl) ?_);refine aP (bW ?_);refine aP (Dv hl ?_);refine aP (vQ ?_);rw[nm];have W:=Walks.list (prog:=prog) (w:=w) (A:=A.in1) hh s.heap.objs.size l (dM lt) its.toArray;generalize eh:s.heap.push { cls:=.type "list_iterator",data:=.fields #[.ref l,.int 0 0] }=h1';have sz:h1'.objs.size=s.heap.objs.size+1:=by rw[<- eh,gY]
 have k1:∀b o,s.heap.get? b=some o->h1'.get? b=some o:=fun b o e=>by rw[<- eh]; exact e_ _ e
 have hit:h1'.IsListIter s.heap.objs.size l 0:=by rw[<- eh]; exact⟨_,dN _ rfl,rfl,rfl⟩
 have hl1:h1'.IsList l its.toArray:=by rw[<- eh]; exact hl.push _
 have nf:h1'.objs.size∉[s.heap.objs.size,l]:=fun q=>by
  rcases d_.mp q with e | q
  ·rw[sz] at e; exact Nat.succ_ne_self _ e
  ·have e:=gF.mp q; rw[sz] at e; rw[<- e] at lt; exact rN _ (Bc (A_ _) lt)
 have ol:∀{h':Heap},(∀b o,b∉[s.heap.objs.size]->b≠h1'.objs.size->(h1'.push { cls:=.type "list",data:=.seq #[] 0 }).get? b=some o->h'.get? b=some o)->∀b o,s.heap.get? b=some o->h'.get? b=some o:=fun k b o e=>by
  have lb:=b8 e;refine k b o (fun q=>?_) (fun q=>?_) (e_ _ (k1 b o e))
  ·rw[gF.mp q] at lb; exact rN _ lb
  ·rw[q,sz] at lb; exact rN _ (Bc (A_ _) lb)
 refine bW ⟨plainId_quiet PySem.F.plain_max_loop _,Ik (ns:=ns) W (by rw[eG,hlen]) (fun i v e=>hi i v (by simpa using e)) h1'.objs.size nf d _ _ ?_ (dN _ rfl) (fun e h' tk k=>h0 e h' tk (ol k)) (fun x r e t h' tk k=>h1 x r e t h' tk (ol k))⟩
 exact W.frame _ _ _ (show h1'.IsListIter s.heap.objs.size l 0/\h1'.IsList l its.toArray from⟨hit,hl1⟩) fun b _ o e=>e_ _ e
end
section
variable {X:Cx}
def QB (t:TA) (te:TE):TE:=fun σ H Q=>t σ H fun vs H1=>te σ H1 fun y H2=>∃(p:Addr) (ns:List Int),vs=[.ref p]/\H2 p=some (.lst (ns.map V.int))/\(ns=[]->Q y H2)/\∀b r,ns=b::r->Q (.int (mZ b r)) H2
theorem xW {ns:List Int}:∀{us:List Value},Vals (ns.map V.int) us->∀i v,us[i]?=some v->∃t,v=Value.int (ns.getD i 0) t:=by
 induction ns with
 | nil=>intro us r i v e; cases r; simp at e
 | cons n ns ih=>
  intro us r i v e;cases r with
  | cons r1 r2=>
   cases i with
   | zero=>
    obtain⟨t,rfl⟩:=(r1:∃t,_=Value.int n t);simp at e;exact⟨t,e.symm⟩
   | succ i=>simpa using ih r2 i v (by simpa using e)
theorem O1 {e e2:Expr} {t:TA} {te:TE} {p pos Pk:Pos} (hc:X.calm=true) (hm:X.mg "max" = none) (ha:PA X [e] t) (hk:PE X e2 te) (hg:Gl X "max" := by rfl) (h1:b_ e=true:=by rfl) :
  PE X (.Call (.Name "max" p) [e] [⟨some "default",e2,Pk⟩] pos) (QB t te):=by
 refine .mk ?_;intro pins s σ H Q I h;refine vR (jz I hg hm l_ ?_ (by decide) (by decide))
 refine callWith_kw ?_ ?_ ?_ ?_ ?_
 ·refine cz (ha pos pins s σ H _ I h) fun us s1 qx=>?_;obtain⟨vs,H1,I1,r,q⟩:=qx;refine cz ((Ou hk R5:PK X [⟨some "default",e2,Pk⟩] _) pos pins s1 σ H1 (fun ys H2=>∃y,ys=[y]/\(∃(p:Addr) (ns:List Int),vs=[.ref p]/\H2 p=some (.lst (ns.map V.int))/\(ns=[]->Q y H2)/\∀b r,ns=b::r->Q (.int (mZ b r)) H2)) I1 ?_) fun ws s2 ⟨zs,H2,I2,rz,q2⟩=>?_
  ·show te σ H1 (fun x H2=>∃y,[x]=[y]/\_)
   have fe:(fun(x:V) (H2:Hp)=>∃y,[x]=[y]/\(∃(p:Addr) (ns:List Int),vs=[.ref p]/\H2 p=some (.lst (ns.map V.int))/\(ns=[]->Q y H2)/\∀b r,ns=b::r->Q (.int (mZ b r)) H2))=fun y H2=>∃(p:Addr) (ns:List Int),vs=[.ref p]/\H2 p=some (.lst (ns.map V.int))/\(ns=[]->Q y H2)/\∀b r,ns=b::r->Q (.int (mZ b r)) H2:=by
    funext x H2
    refine propext ⟨?_,fun z=>⟨x,rfl,z⟩⟩;rintro⟨y,ey,z⟩;cases ey;exact z
   rw[fe];exact q
  ·obtain⟨y,rfl,l,ns,rfl,hl,q0,q1⟩:=q2;obtain⟨u,rfl,ru⟩:=r.one;cases ru;obtain⟨v,rfl,rv⟩:=rz.one;obtain⟨_,its,n,rvs,eo⟩:=I2.hok l _ hl;have hlen:=rvs.length;rw[cT] at hlen;refine Ji (ns:=ns) (I2.ok.hd hc) (show s2.heap.IsList l its.toArray from⟨_,eo,rfl,n,rfl⟩) (xW rvs) hlen.symm (fun e h' tk k=>⟨y,H2,I2.kept (t':=tk) k,rv,q0 e⟩) (fun b r e t h' tk k=>⟨.int (mZ b r),H2,I2.kept (t':=tk) k,⟨t,rfl⟩,q1 b r e⟩)
 ·rw[bZ h1]; rfl
 ·exact cJ (es:=[e]) (by simp[h1])
 ·rfl
 ·rfl
end
def ji (t:Str):Nat:=if(("come" : Str)==t)=true then 0 else if(("done" : Str)==t)=true then 1 else 2
def Qu:List V:=[.str "come",.str "done",.str "wait"]
def Wl (K:PySem.W.Frag):V->List V->Hp->VK->Prop:=fun x xs H Q=>∃(p:Addr) (t:Str),x=.ref p/\fW K H p Qu/\xs=[.str t]/\t∈(["come","done","wait"]:List Str)/\Q (.int (ji t)) H
theorem tL {x y z:V} {us:List Value} (h:Vals [x,y,z] us):∃u v q,us=[u,v,q]/\RelV x u/\RelV y v/\RelV z q:=by
 obtain⟨u,r,rfl,h1,h⟩:=h.un;obtain⟨v,q,rfl,h2,h3⟩:=h.two;exact⟨u,v,q,rfl,h1,h2,h3⟩
theorem Pq {t:Str} (h:t∈(["come","done","wait"]:List Str)) (h0:(("come" : Str)==t)=false) (h1:(("done" : Str)==t)=false):(("wait" : Str)==t)=true:=by
 simp only[d_,cW,or_false] at h;rcases h with rfl | rfl | rfl
 ·revert h0; decide +kernel
 ·revert h1; decide +kernel
 ·decide +kernel
section
variable {X:Cx}
theorem Ag {prog:Program} {w:World} {A:Around} {E:Value->Shared->Prop} {s:Shared} {p:Addr} {a b c t:Str} {k0 k1 k2 k3:Tok} {Q:Value->Shared->Prop} (ht:IsTup s.heap p #[.str a k0,.str b k1,.str c k2]) (hl:(a==t)=false->(b==t)=false->(c==t)=true)
  (q:∀tk,Q (Value.int (if(a==t)=true then 0 else if(b==t)=true then 1 else 2) tk) { s with toks:=s.toks+1 }):wpAny (model prog w) A (call (.builtin "tuple.index") [.ref p,.str t k3]) Q E s:=by
 refine Ba PySem.F.slot_tuple_index ht.typeIs PySem.F.entry_tuple_index ?_ (PySem.F.args_tuple_index_2 _ _);show wpAny _ A.in1 (Builtin.Tuple.tupleItemsOf (.ref p) >>= _) _ _ s;refine aP (tupleItemsOf_ ht ?_);show wpAny _ _ ((pure 0:Sem Nat) >>= _) _ _ s;refine aP (bW ?_);show wpAny _ _ ((pure 3:Sem Nat) >>= _) _ _ s;refine aP (bW ?_);show wpAny _ _ (forIn [0:3] _ _ >>= _) _ _ s;rw[Std.Legacy.Range.forIn_eq_forIn_range'];have e:List.range' [0:3].start [0:3].size [0:3].step=[0,1,2]:=rfl;rw[e,Ay]
 have mk:∀(i:Int) {R:PySem.Fin->Shared->Prop},(∀tk,R (.done (.ret (.int i tk))) { s with toks:=s.toks+1 })->wpAny (model prog w) A.in1 (retInt i) R E s:=fun i {R} h=>by
  unfold retInt;refine aP (wpAny_mkInt (bW (h _)))
 have eq:∀(z:Str) (k:Tok),SeqAt.EqAt A.in1 s (.str z k) (.str t k3) (z==t):=fun z k=>SeqAt.EqAt.str_str z k t k3;cases e0:(a==t) with
 | true=>
  rw[e0] at q;refine aP (aP (aP (eq a k0 _ _ _ _ ?_)));rw[e0,a_ rfl];refine aP (mk 0 fun tk=>bW (bW (bW ⟨_,rfl,q tk⟩)))
 | false=>
  rw[e0] at q;refine aP (aP (aP (eq a k0 _ _ _ _ ?_)));rw[e0,aV (by decide)]
  refine bW ?_;show wpAny _ _ (forIn [1,2] _ _) _ _ s;rw[Ay];cases e1:(b==t) with
  | true=>
   rw[e1] at q;refine aP (aP (eq b k1 _ _ _ _ ?_));rw[e1,a_ rfl];refine aP (mk 1 fun tk=>bW (bW (bW ⟨_,rfl,q tk⟩)))
  | false=>
   rw[e1] at q;refine aP (aP (eq b k1 _ _ _ _ ?_));rw[e1,aV (by decide)]
   refine bW ?_;show wpAny _ _ (forIn [2] _ _) _ _ s;rw[Ay];refine aP (aP (eq c k2 _ _ _ _ ?_));rw[hl e0 e1,a_ rfl];refine aP (mk 2 fun tk=>bW (bW (bW ⟨_,rfl,q tk⟩)))
theorem Il {K:PySem.W.Frag} (hK:X.K=K):Zf X "tuple.index" (Wl K):=by
 subst hK;intro pins s σ H x xs v us Q I rx rv h;obtain⟨p,t,rfl,hp,rfl,ht,q⟩:=h;cases rx;obtain⟨u,rfl,tk,rfl⟩:=rv.one;obtain⟨its,r,pt,_⟩:=I.tuple hp;obtain⟨u0,u1,u2,rfl,⟨k0,rfl⟩,⟨k1,rfl⟩,⟨k2,rfl⟩⟩:=tL r;refine Ag pt (Pq ht) fun tk'=>⟨.int (ji t),H,I.tok _,⟨tk',?_⟩,q⟩;unfold ji;split
 ·rfl
 ·split <;> rfl
def GT2 (K:PySem.W.Frag) (mg:Str->Option Value) (x:Str) (W:List V):Prop:=∃a,mg x=some (.ref a)/\(∃o,K.lookup a=some o/\o.cls=.type "tuple" /\ o.dict=none)/\∀H,fW K H a W
def V2 (K:PySem.W.Frag) (W:List V):TE:=fun _ H Q=>∀a,(∃o,K.lookup a=some o/\o.cls=.type "tuple" /\ o.dict=none)->(∀H',fW K H' a W)->Q (.ref a) H
theorem Ox {K:PySem.W.Frag} {x:Str} {W:List V} {pos:Pos} (hK:X.K=K) (h:GT2 K X.mg x W) (hg:Gl X x:=by rfl) (hd:(x==("__debug__" : Str))=false:=by decide):PE X (.Name x pos) (V2 K W):=by
 obtain⟨a,ha,ho,hs⟩:=h;refine .mk ?_;intro pins s σ H Q I q;exact yH (v:=.ref a) hg ha rfl hd pins s σ H Q I (q a ho hs)
end
section
variable {X:Cx} {pos:Pos}
def Qz (i j l:Nat) (ta:TA):TS:=fun D σ H=>ta σ H fun vs H1=>∃v w z,vs=[v,w,z]/\D.nx (((σ.set l (some z)).set j (some w)).set i (some v)) H1
theorem Gf {i j l:Nat} {x y z:Str} {a b c:Expr} {ta:TA} {px py pz pt:Pos} {kt k2 R3} (hc:X.calm=true) (hN:X.N.Nodup) (hi:X.N[i]?=some x) (hj:X.N[j]?=some y) (hl:X.N[l]?=some z)
  (hx:X.env.scope.names.lookup x=some .local) (hy:X.env.scope.names.lookup y=some .local) (hz:X.env.scope.names.lookup z=some .local) (ha:PA X [a,b,c] ta)
  (hw:swappedStores [.Tuple [.Name x px,.Name y py,.Name z pz] kt pt] (.Tuple [a,b,c] k2 R3) X.env=pure (some [x,y,z]))
  (hs:swapsWithSole [.Tuple [.Name x px,.Name y py,.Name z pz] kt pt] (.Tuple [a,b,c] k2 R3) pos.line X.env=pure false:=by rfl) :
  PS X (.Assign [.Tuple [.Name x px,.Name y py,.Name z pz] kt pt] (.Tuple [a,b,c] k2 R3) pos) (Qz i j l ta):=by
 refine .mk ?_;intro pins s σ H D I h;rw[exec_Assign_arm,hs];refine aP (yq (aP (bW ?_)));rw[aV (by decide)]
 refine aP (Tuple_ (cz (ha _ pins s σ H _ I h) fun us s1 qx=>?_));obtain⟨vs,H1,I1,r1,v,w,t,e1,q1⟩:=qx;subst e1;obtain⟨u1,u2,u3,rfl,rv,Ao,rt⟩:=tL r1;refine vQ ?_ (by show 3<=sizeLine; decide)
 have I2:Inv X pins σ H1 { s1 with heap:=s1.heap.push { cls:=.type "tuple",data:=.seq [u1,u2,u3].toArray } }:=I1.kept (t':=s1.toks) fun b o e=>e_ _ e
 rw[hw];refine aP (bW ?_);show wpAny (model X.prog X.w) X.A (do rule "assign.swapped-stores"; let items <- unpackItems (.ref s1.heap.objs.size) 3 none; assignInOrder [fun v=>bindName X.env z v,fun v=>bindName X.env y v,fun v=>bindName X.env x v] items.reverse; pure Flow.next) _ _ _
 refine aP (Av (aP (unpackItems_tuple (items:=#[u1,u2,u3]) (I.ok.hd hc) (IsTup.new s1.heap _) fun h' hx'=>?_)));have I3:=I2.kept (h':=h') (t':=s1.toks) fun b o e=>hx' b o (dM (b8 e)) e;show wpAny _ _ (assignInOrder [fun v=>bindName X.env z v,fun v=>bindName X.env y v,fun v=>bindName X.env x v] [u3,u2,u1] >>= fun _=>pure Flow.next) _ _ _;refine aP (assignInOrder_cons (Bg (gC I3 hN hl (.inl hz) rt (fun s2 I4=>?_) (.inr hz))));refine assignInOrder_cons (Bg (gC I4 hN hj (.inl hy) Ao (fun s3 I5=>?_) (.inr hy)));exact assignInOrder_cons (Bg (gC I5 hN hi (.inl hx) rv (fun s4 I6=>assignInOrder_nil (bW ⟨_,H1,I6,q1⟩)) (.inr hx)))
end
theorem Inv.Nq {X:Cx} {pins:List (Addr×Obj)} {σ:St} {H:Hp} {s:Shared} {h':Heap} {t':Nat} {e it:Addr} (I:Inv X pins σ H s) (k:∀b o,b≠e->b≠it->s.heap.get? b=some o->h'.get? b=some o) (fe:fK X pins H e) (fi:fK X pins H it) :
  Inv X pins σ H { s with heap:=h',toks:=t' }:=by
 have k2:∀b o,b∉[e,it]->s.heap.get? b=some o->h'.get? b=some o:=fun b o hb q=>k b o (fun z=>hb (by simp[z])) (fun z=>hb (by simp[z])) q
 have fp:∀b∈[e,it],fK X pins H b:=fun b hb=>by
  rcases d_.mp hb with z | z
  ·rw[z]; exact fe
  ·rw[gF.mp z]; exact fi
 have ni:∀b u,H b=some u->b∉[e,it]:=fun b u q hb=>by rw[(fp b hb).1] at q; cases q
 refine I.step (g':=s.gens) (d':=s.drawn) (ch:=[e,it]) (fun b hb=>?_) (fun b o _ _ hc q _=>k2 b o hc q) (fun b o _ _ hc q _=>⟨o.slots,k2 b o hc q⟩) (fun _ _ _ _ n=>n) (fun b o hc q=>⟨o,k2 b o hc q⟩) (fun _ _ q=>q) (fun _ _ _ q=>q)
  (fun b ps q=>⟨#[],by rw[q]; simp⟩) (fun m hm=>?_) (fun b u q=>?_) I.bare
 ·obtain⟨_,f1,_,f3,f4,f5⟩:=fp b hb;exact⟨f3,f1,f4,f5⟩
 ·obtain⟨o,es,ep,ho,r⟩:=hm;refine⟨o,es,ep,k2 _ o (fun hb=>(fp _ hb).2.1 rfl) ho,r⟩
 ·refine(I.hok b u q).stay (fun c v hc z=>k2 c v ?_ z) (fun _ z=>z) fun _ _ z=>z;rcases hc with z | z
  ·rw[z]; exact ni b u q
  ·exact ni c _ z
def Vq (K:PySem.W.Frag) (a:Addr):It:=
 ⟨fun i H=>∃xs x,cV K H a xs/\xs[i]?=some x,fun i H x H'=>∃p y,H p=none/\x=.ref p/\H'=upd H p (.tup [.int i,y])/\∀xs,cV K H a xs->xs[i]?=some y,fun i H=>∃xs,cV K H a xs/\xs.length<=i⟩
theorem Hf {P:Program} {w:World} {K:PySem.W.Frag} {elts:List Expr} {x1} {tp:Pos} (a e it:Addr) (hne:e≠it):Turn P w K (.Tuple elts x1 tp) (Vq K a) [e,it] e (fun i h=>(∃old,IsEnum h e it (i:Nat) old)/\h.IsListIter it a i) where
 mem:=by simp
 obj:=fun i h st b hb=>by
  obtain⟨⟨old,he⟩,o,ho,c,d⟩:=st;rcases d_.mp hb with z | z
  ·rw[z]; exact⟨_,he,fun v q=>by cases q⟩
  ·rw[gF.mp z]; exact⟨o,ho,fun v q=>by rw[d] at q; cases q⟩
 keep:=fun i h h' st k=>by
  obtain⟨⟨old,he⟩,hi⟩:=st;exact⟨⟨old,k e (by simp) _ he⟩,hi.at fun o q=>k it (by simp) o q⟩
 item:=by
  intro X hP hw hK hc i pins s σ H E I hf st hg;subst hP hw hK;obtain⟨⟨old,he⟩,hi⟩:=st;obtain⟨xs,x,hq,hx⟩:=hg;obtain⟨its,rv,p,hz⟩:=I.list hq;obtain⟨u,hu,ru⟩:=rv.get hx;have fe:=hf e (by simp)
  have fi:=hf it (by simp)
  refine wpAny_pyNext_enum_item he hi p.isList (x:=u) (by simpa using hu) hne fun h' eo hi' ht hsz kk=>?_
  have fr:H s.heap.objs.size=none:=I.hok.fresh (bG _)
  have I1:Inv X pins σ (upd H s.heap.objs.size (.tup [.int i,x])) { s with heap:=s.heap.push { cls:=.type "tuple",data:=.seq #[.int i s.toks,u] },toks:=s.toks }:=
   I.laid (t':=s.toks) (fun b v q=>e_ _ q) (bG _) ⟨(by show 2<=sizeLine; decide),[.int i s.toks,u],.cons ⟨_,rfl⟩ (.cons ru .nil),⟨_,dN _ rfl,rfl,_,rfl⟩⟩
  have ee:e<s.heap.objs.size:=b8 he;have ei:it<s.heap.objs.size:=by obtain⟨o,ho,_⟩:=hi; exact b8 ho
  have T7:fK X pins (upd H s.heap.objs.size (.tup [.int i,x])) e:=⟨by rw[aJ (dM ee)]; exact fe.1,fe.2⟩
  have fi1:fK X pins (upd H s.heap.objs.size (.tup [.int i,x])) it:=⟨by rw[aJ (dM ei)]; exact fi.1,fi.2⟩
  have I2:Inv X pins σ (upd H s.heap.objs.size (.tup [.int i,x])) { s with heap:=h',toks:=s.toks+1 }:=I1.Nq (t':=s.toks+1) (fun b o h1 h2 q=>by
   by_cases z:b=s.heap.objs.size
   ·subst z;rw[dN _ rfl] at q;cases q;exact ht
   ·rcases Heap.get?_push_cases q with w | w
    ·exact absurd w.1 z
    ·exact kk b o h1 h2 w) T7 fi1
  refine⟨_,rfl,wpAny_letOwnedTupleGo_enum eo fun h'' en sb=>⟨.ref s.heap.objs.size,_,I2.turned (it:=e) (t':=s.toks+1) (fun b o hb q=>sb.extBut b o hb q) T7.1 T7.2.1 T7.2.2.2.1 T7.2.2.2.2.1 T7.2.2.2.2.2,rfl,⟨_,x,fr,rfl,rfl,fun ys hy=>by rw[I.uZ hy hq]; exact hx⟩,⟨⟨_,en⟩,?_⟩,fun b hb=>?_⟩⟩
  ·exact hi'.at fun o q=>sb.extBut it o (Ne.symm hne) q
  ·rcases d_.mp hb with z | z
   ·rw[z]; exact T7.1
   ·rw[gF.mp z]; exact fi1.1
 done:=by
  intro X hP hw hK hc i pins s σ H E I hf st hg;subst hP hw hK;obtain⟨⟨old,he⟩,hi⟩:=st;obtain⟨xs,hq,hx⟩:=hg;obtain⟨its,rv,p,hz⟩:=I.list hq;have hl:=rv.length;obtain⟨f0,f1,f2,f3,f4,f5⟩:=hf it (by simp)
  exact wpAny_pyNext_enum_end (I.ok.hd hc) he hi p.isList (by simp; omega) fun h' eb=>⟨rfl,I.turned (t':=s.toks) (fun b o hb q=>eb b o hb q) f0 f1 f3 f4 f5⟩
 self:=fun _ _ _ _ _ st h=>by
  obtain⟨⟨old,he⟩,_⟩:=st;exact wpAny_pyIter_enum he h
section
variable {X:Cx}
def Q5 (K:PySem.W.Frag) (ta:TA):TI:=fun σ H R=>ta σ H fun vs H1=>∃a,vs=[.ref a]/\(∃xs,cV K H1 a xs)/\R (Vq K a) H1
theorem Gh {K:PySem.W.Frag} {e:Expr} {elts:List Expr} {x1} {tp p pos:Pos} {ta:TA} (hK:X.K=K) (hm:X.mg "enumerate" = none) (ha:PA X [e] ta) (hg:Gl X "enumerate" := by rfl) (h1:b_ e=true:=by rfl) :
  PI X (.Tuple elts x1 tp) (.Call (.Name "enumerate" p) [e] [] pos) (Q5 K ta):=by
 subst hK;refine .mk ?_;intro pins s σ H R I h;refine vR (jz I hg hm zV ?_ (by decide) (by decide))
 refine PyProof.Rows.callWith_type1 (cz (ha pos pins s σ H _ I h) fun us s1 ⟨vs,H1,I1,r1,q1⟩=>?_) (bZ h1) (cJ (es:=[]) rfl);obtain⟨a,rfl,⟨xs,hq⟩,q⟩:=q1;obtain⟨u,rfl,ru⟩:=r1.one;cases ru;obtain⟨its,rv,pl,hz⟩:=I1.list hq;refine call_enumerate_list pl.isList fun h' he hi hsz kk=>?_;have I2:Inv X pins σ H1 { s1 with heap:=h' }:=I1.kept (t':=s1.toks) kk
 have f1:H1 (s1.heap.objs.size+1)=none:=I1.hok.fresh (wX _);have f0:H1 s1.heap.objs.size=none:=I1.hok.fresh (bG _);refine wpAny_pyIter_enum he ⟨s1.heap.objs.size+1,_,_,Vq X.K a,H1,rfl,I2,Hf a (s1.heap.objs.size+1) s1.heap.objs.size (Nat.succ_ne_self _),⟨⟨_,he⟩,hi⟩,fun b hb=>?_,q⟩;rcases d_.mp hb with z | z
 ·rw[z]; exact I1.vg (wX _) f1
 ·rw[gF.mp z]; exact I1.vg (bG _) f0
def EK (K:PySem.W.Frag) (g:TG) (tb:TS) (D:Ends) (σ:St) (vs:List V) (H1:Hp):Prop:=∃a,vs=[.ref a]/\(∃xs,cV K H1 a xs)/\∃W:Nat->Nat->St->Hp->Prop,(∃m,W 0 m σ H1)/\∀i m σ H,W i m σ H ->
 ((Vq K a).stop i H/\D.nx σ H)\/((Vq K a).go i H/\∃N:St->Hp->Prop,(∀σ' H',N σ' H'->∃m',m'<m/\W (i+1) m' σ' H')/\∀x H',(Vq K a).Fi i H x H'->g x σ H' fun σ2 H2=>tb { D with nx:=N,ct:=N,bk:=D.nx } σ2 H2)
theorem wM {K:PySem.W.Frag} {ta:TA} {g:TG} {tb:TS} {D:Ends} {σ:St} {H:Hp}:CZ (Q5 K ta) g tb D σ H=ta σ H (EK K g tb D σ):=rfl
theorem EK.of {K:PySem.W.Frag} {g:TG} {tb:TS} {D:Ends} {σ:St} {H:Hp} {a:Addr} {xs:List V} (ha:H a=some (.lst xs)) (Pv:Nat->St->Hp->Prop) (h0:Pv 0 σ H) (hl:∀i σ H',i<=xs.length->Pv i σ H'->H' a=some (.lst xs))
  (hs:∀i x σ H p,xs[i]?=some x->Pv i σ H->H p=none->g (.ref p) σ (upd H p (.tup [.int (i:Nat),x])) fun σ2 H2=>tb { D with nx:=Pv (i+1),ct:=Pv (i+1),bk:=D.nx } σ2 H2) (hd:∀σ H,Pv xs.length σ H->D.nx σ H):EK K g tb D σ [.ref a] H:=by
 refine⟨a,rfl,⟨xs,cV.of ha⟩,fun i m σ H=>m=xs.length-i/\i<=xs.length/\Pv i σ H,⟨_,rfl,iY _,h0⟩,?_⟩;rintro i m σ H ⟨rfl,hi,p⟩;have q:cV K H a xs:=cV.of (hl i σ H hi p);by_cases hlt:i<xs.length
 ·refine .inr ⟨⟨xs,xs[i],q,gG hlt⟩,Pv (i+1),fun σ' H' p'=>⟨xs.length-(i+1),by omega,rfl,hlt,p'⟩,fun x H' y=>?_⟩
  obtain⟨t,z,ht,rfl,rfl,hz⟩:=y;exact hs i z σ H t (hz xs q) p ht
 ·have e:i=xs.length:=by omega
  subst e;exact .inl ⟨⟨xs,q,bG _⟩,hd σ H p⟩
end
section
variable {X:Cx}
theorem xN:du X (.type "list") (fun vs H Q=>∃(p:Addr) (ys:List V),vs=[.ref p]/\H p=some (.lst ys)/\∀l,H l=none->Q (.ref l) (upd H l (.lst ys))):=by
 refine .mk ?_;intro pins s σ H vs us Q I r h;obtain⟨p,ys,e,hp,q⟩:=h;exact p_ pins s σ H vs us Q I r ⟨p,ys,e,.inl (cV.of hp),q⟩
theorem gU {K:PySem.W.Frag} {o e:Expr} {es:List Expr} {to:TE} {t:TA} {name:Str} {apos cpos:Pos} {T id:String} {r:V->List V->Hp->VK->Prop} (hK:X.K=K) (pa:PlainAttrs T) (slot:Slot T name id) (hty:typeOf (.builtin id)=pure (.type "method_descriptor")) (hm:Zf X id r) (ho:PE X o to) (ha:PA X (e::es) t)
  (hbase:attributeBase o name X.env (eval o X.env)=eval o X.env:=by rfl)
  (hfew:((backTo cpos (starEach (e::es) X.env)).all (fun x=>!x.1)&&(backToKw cpos (keywordEach [] X.env)).all (fun x=>x.1.isSome)&&decide ((e::es).length+([]:List Keyword).length+(if([]:List Keyword).isEmpty then 0 else 1)<30))=true:=by rfl)
  (hline:(apos.endLine==cpos.line)=true:=by rfl) (hs:starEach (e::es) X.env=(false,eval e X.env)::starEach es X.env:=by rfl) (hplain:(backTo cpos (starEach es X.env)).any (·.1)=false:=by rfl):PE X (.Call (.Attribute o name apos) (e::es) [] cpos) (ZL K T r to t):=by
 subst hK;exact Wz pa slot hty hm ho ha hbase hfew hline hs hplain
end
theorem Dd:isSubtype (.type "range_iterator") (.type "reversed")=pure false:=by rw[isSubtype_type]; kernel_rfl
section
variable {prog:Program} {w:World} {A:Around} {E:Value->Shared->Prop} {s:Shared}
def uy (n:Int):Obj:={ cls:=.type "range_iterator",data:=.fields #[rawInt (n-1),rawInt n,rawInt (-1)] }
theorem vB {r:Addr} {n:Int} {t u v:Tok} {Q:Value->Shared->Prop} (hr:IsRange s.heap r 0 n 1 t u v) (h0:0<=n) (h1:n<2 ^ 62) (h:Q (.ref s.heap.objs.size) { s with heap:=s.heap.push (uy n) }) :
  wpAny (model prog w) A (call (.builtin "range.__reversed__") [.ref r]) Q E s:=by
 have hT:s.TypeIs (.ref r) "range" := ⟨_,hr,rfl⟩;refine Ba PySem.F.slot_range_reversed hT PySem.F.entry_range_reversed ?_ (PySem.F.args_range_reversed_1 _);unfold Builtin.«range.__reversed__»;refine aP (vN (a:=Value.ref r) rfl ?_)
 have rf:∀{R:Int×Int×Int->Shared->Prop},R (0,n,1) s->wpAny (model prog w) A.in1 (Builtin.Range.rangeFields (.ref r)) R E s:=fun {R} hR=>by
  unfold Builtin.Range.rangeFields;refine aP (jJ hr rfl (x:=.int 0 t) rfl (aP (vN (a:=some (0:Int)) rfl ?_)));refine aP (jJ hr rfl (x:=.int n u) rfl (aP (vN (a:=some n) rfl ?_)));exact aP (jJ hr rfl (x:=.int 1 v) rfl (aP (vN (a:=some (1:Int)) rfl (bW hR))))
 refine aP (rf ?_);dsimp only;have sz:Builtin.Range.rangeSize 0 n 1=n:=by rw[rangeSize_one]; split <;> omega
 rw[sz]
 have sm:(Builtin.Range.rangeFitsLong 0&&Builtin.Range.rangeFitsLong n&&Builtin.Range.rangeFitsLong 1&&Builtin.Range.rangeFitsLong (-1)&&Builtin.Range.rangeFitsLong (0-1)&&Builtin.Range.rangeFitsLong n)=true:=by
  have:Builtin.Range.rangeFitsLong n=true:=by simp only[Builtin.Range.rangeFitsLong,Dt,decide_eq_true_eq]; omega
  rw[this]; decide
 rw[sm];simp only[Bool.not_true,Dy,if_false,if_true];have e1:(0+(n-1)*1:Int)=n-1:=by omega
 rw[e1];exact aP (vQ (bW ⟨_,rfl,h⟩))
theorem vy {r:Addr} {n:Int} {t u v:Tok} {Q:Value->Shared->Prop} (hr:IsRange s.heap r 0 n 1 t u v) (h0:0<=n) (h1:n<2 ^ 62) (h:Q (.ref s.heap.objs.size) { s with heap:=s.heap.push (uy n) }) :
  codeAny (model prog w) A (.call (.builtin "reversed.__new__") ⟨[.type "reversed",.ref r],[]⟩) (wants Q E) s:=by
 have hT:s.TypeIs (.ref r) "range" := ⟨_,hr,rfl⟩;refine codeAny_of_tree ?_;show wpAny _ A.in1 (do checkBuiltinCall "reversed.__new__" ⟨[.type "reversed",.ref r],[]⟩; again (.builtin "reversed.__new__" ⟨[.type "reversed",.ref r],[]⟩)) _ _ s
 refine aP (vN (F.newCall_reversed_1 (.ref r)) (bW ⟨plainId_quiet F.plain_reversed_new _,codeAny_builtin F.entry_reversed_new ?_⟩));rw[Around.under_plainId F.plain_reversed_new _];unfold Builtin.«reversed.__new__»;refine aP (vN (newClass_reversed (.ref r)) ?_); (try dsimp only)
 refine aP (vN (a:=()) rfl (aP (vN (a:=()) rfl ?_)));refine aP (wpAny_specialOf hT PySem.F.slot_range_reversed.lookup ?_); (try dsimp only)
 refine aP (vN (PySem.F.slot_range_reversed.bind _) ?_); (try dsimp only)
 rw[aV (show ¬((Value.builtin "range.__reversed__" == Value.none)=true) from jw)];refine aP (Av (aP (m:=runValue (.call (.builtin "range.__reversed__") ⟨[.ref r],[]⟩)) (show wpAny _ _ (call (.builtin "range.__reversed__") [.ref r]) _ _ _ from vB hr h0 h1 ?_)))
 first
  | exact bW h
  | exact aP (bW (bW h))
theorem vA {r:Addr} {n:Int} {t u v:Tok} {Q:Value->Shared->Prop} (hr:IsRange s.heap r 0 n 1 t u v) (h0:0<=n) (h1:n<2 ^ 62) (h:Q (.ref s.heap.objs.size) { s with heap:=s.heap.push (uy n) }) :
  wpAny (model prog w) A (call (.type "reversed") [.ref r]) Q E s:=by
 refine callType_other (U:="range_iterator") (Q₁:=fun obj z=>obj=.ref s.heap.objs.size/\z={ s with heap:=s.heap.push (uy n) }) (by decide +kernel) F.create_reversed ⟨_,_,F.mro_reversed⟩ F.made_reversed Dd (F.typeCall_reversed_1 _) (vy hr h0 h1 ⟨rfl,rfl⟩) ?_
 rintro obj z ⟨rfl,rfl⟩;exact⟨⟨_,dN _ rfl,rfl⟩,h⟩
end
def Vp (n:Nat):It:=⟨fun i _=>i<n,fun i H x H'=>H'=H/\x=.int ((n:Int)-1-i),fun i _=>n<=i⟩
theorem JP {P:Program} {w:World} {K:PySem.W.Frag} {tg:Expr} (it:Addr) (n:Nat):Turn P w K tg (Vp n) [it] it (fun i h=>IsRangeIter h it ((n:Int)-1+(i:Nat)*(-1)) ((n:Int)-(i:Nat)) (-1)) where
 mem:=by simp
 obj:=fun i h st b hb=>by
  rw[gF.mp hb]
  exact⟨_,st,fun v z=>by
   have z':Data.fields _=Data.cell v:=z
   cases z'⟩
 keep:=fun i h h' st k=>k it (by simp) _ st
 item:=by
  intro X hP hw hK hc i pins s σ H E I hf st hg;subst hP hw hK;obtain⟨f0,f1,f2,f3,f4,f5⟩:=hf it (by simp)
  have W:=Walks.range (prog:=X.prog) (w:=X.w) (I.ok.hd hc) it ((n:Int)-1) (-1) n;refine W.item i s _ _ hg st fun v h' tk hv st' kk=>?_;obtain⟨t,rfl⟩:=hv;have I1:Inv X pins σ H { s with heap:=h',toks:=tk }:=I.turned (fun b o hb e=>kk b o (by simpa using hb) e) f0 f1 f3 f4 f5
  refine⟨_,rfl,xr (s:={ s with heap:=h',toks:=tk }) (n:="range_iterator") st' rfl rfl (by decide) ⟨.int ((n:Int)-1-i),H,I1,⟨t,?_⟩,⟨rfl,rfl⟩,st',fun b hb=>(hf b hb).1⟩⟩
  congr 1
  omega
 done:=by
  intro X hP hw hK hc i pins s σ H E I hf st hg;subst hP hw hK;obtain⟨f0,f1,f2,f3,f4,f5⟩:=hf it (by simp)
  exact wpAny_pyNext_range_end (I.ok.hd hc) st (by have:n<=i:=hg; omega) fun h' eb=>⟨rfl,I.turned (t':=s.toks) (fun b o hb e=>eb b o hb e) f0 f1 f3 f4 f5⟩
 self:=fun _ _ _ _ _ st h=>Kr st h
section
variable {X:Cx}
theorem Ce:bootBuiltins "reversed" = some (.type "reversed"):=by decide +kernel
def Xf (ta:TA):TI:=fun σ H R=>ta σ H fun vs H1=>∃n:Nat,vs=[.int n]/\n<=1000000/\R (Vp n) H1
theorem R8 {tg a:Expr} {p p2 pos pos2:Pos} {ta:TA} (hm:X.mg "reversed" = none) (hm2:X.mg "range" = none) (ha:PA X [a] ta) (hg:Gl X "reversed" := by rfl) (hg2:Gl X "range" := by rfl) (h1:b_ a=true:=by rfl) :
  PI X tg (.Call (.Name "reversed" p) [.Call (.Name "range" p2) [a] [] pos2] [] pos) (Xf ta):=by
 refine .mk ?_;intro pins s σ H R I h;refine vR (jz I hg hm Ce ?_ (by decide) (by decide))
 refine PyProof.Rows.callWith_type1 ?_ (bZ rfl) (cJ (es:=[]) rfl);rw[bZ (e:=.Call (.Name "range" p2) [a] [] pos2) rfl];show wpAny _ _ (spliced ((false,eval (.Call (.Name "range" p2) [a] [] pos2) X.env)::backTo pos (starEach [] X.env))) _ _ s;refine Calls.spliced_cons ?_;refine vR (jz I hg2 hm2 Mv ?_ (by decide) (by decide))
 refine PyProof.Rows.callWith_type1 (cz (ha pos2 pins s σ H _ I h) fun us s1 ⟨vs,H1,I1,r1,n,e,hn,q⟩=>?_) (bZ h1) (cJ (es:=[]) rfl);subst e;obtain⟨u,rfl,t,rfl⟩:=r1.one;refine call_range_1 ?_;refine Calls.spliced_nil ?_;refine vA (IsRange.new ..) (by omega) (by omega) ?_
 have k2:∀b o,s1.heap.get? b=some o->((s1.heap.push { cls:=.type "range",data:=.fields #[.int 0 s1.toks,.int (n:Int) t,.int 1 (s1.toks+1)] }).push (uy n)).get? b=some o:=fun b o e=>e_ _ (e_ _ e);have I2:=I1.kept (t':=s1.toks+1+1) k2;generalize hh:s1.heap.push { cls:=.type "range",data:=.fields #[.int 0 s1.toks,.int (n:Int) t,.int 1 (s1.toks+1)] }=h1' at I2 ⊢;have sz:s1.heap.objs.size<=h1'.objs.size:=by rw[<- hh,gY]; exact wX _
 have st:IsRangeIter (h1'.push (uy n)) h1'.objs.size ((n:Int)-1+((0:Nat):Int)*(-1)) ((n:Int)-((0:Nat):Int)) (-1):=by
  have e1:(n:Int)-1+((0:Nat):Int)*(-1)=(n:Int)-1:=by simp
  have e2:(n:Int)-((0:Nat):Int)=n:=by simp
  rw[e1,e2];exact dN _ rfl
 refine Kr (s:={ s1 with heap:=h1'.push (uy n),toks:=s1.toks+1+1 }) (by exact st) ⟨h1'.objs.size,[h1'.objs.size],_,Vp n,H1,rfl,I2,JP _ n,st,fun b hb=>?_,q⟩
 rw[gF.mp hb];exact I1.vg sz (I1.hok.fresh sz)
def Y_ (g:TG) (tb:TS) (D:Ends) (σ:St) (vs:List V) (H1:Hp):Prop:=∃n:Nat,vs=[.int n]/\n<=1000000/\∃W:Nat->Nat->St->Hp->Prop,(∃m,W 0 m σ H1)/\∀i m σ H,W i m σ H ->
 ((Vp n).stop i H/\D.nx σ H)\/((Vp n).go i H/\∃N:St->Hp->Prop,(∀σ' H',N σ' H'->∃m',m'<m/\W (i+1) m' σ' H')/\∀x H',(Vp n).Fi i H x H'->g x σ H' fun σ2 H2=>tb { D with nx:=N,ct:=N,bk:=D.nx } σ2 H2)
theorem JV {ta:TA} {g:TG} {tb:TS} {D:Ends} {σ:St} {H:Hp}:CZ (Xf ta) g tb D σ H=ta σ H (Y_ g tb D σ):=rfl
theorem Y_.of {g:TG} {tb:TS} {D:Ends} {σ:St} {H:Hp} {n:Nat} {i:Int} (ei:i=n) (hn:n<=1000000) (Pv:Nat->St->Hp->Prop) (h0:Pv 0 σ H)
  (hs:∀i σ H,i<n->Pv i σ H->g (.int ((n:Int)-1-(i:Nat))) σ H fun σ2 H2=>tb { D with nx:=Pv (i+1),ct:=Pv (i+1),bk:=D.nx } σ2 H2) (hd:∀σ H,Pv n σ H->D.nx σ H):Y_ g tb D σ [.int i] H:=by
 subst ei;refine⟨n,rfl,hn,fun i m σ H=>m=n-i/\i<=n/\Pv i σ H,⟨n,rfl,iY _,h0⟩,?_⟩;rintro i m σ H ⟨rfl,hi,p⟩;by_cases hlt:i<n
 ·refine .inr ⟨hlt,Pv (i+1),fun σ' H' p'=>⟨n-(i+1),by omega,rfl,hlt,p'⟩,fun x H' y=>?_⟩
  obtain⟨e1,e2⟩:=y;subst e1 e2;exact hs i σ _ hlt p
 ·have e:i=n:=by omega
  subst e;exact .inl ⟨bG _,hd σ H p⟩
end
structure Fe (K:PySem.W.Frag) (x qual:Str) (st:Stmt) (f:Addr) (fd:FuncData) (T:Addr) (i:Int) (t:Tok):Prop where
 ex:∃(oc:Value) (od:Option Addr) (kV doc pm:Value) (an:Option Addr) (cdv ct:Value) (osl:Array (Option Value)),
  fd=PySem.W.fnOf x qual (bN st) (bI st) (aC st) (.ref T) kV doc pm an cdv ct/\K.lookup f=some ⟨oc,od,.func fd,osl⟩/\PySem.W.codeIn K cdv qual=true
 kp:PySem.W.keepIn K (.ref f)=true
 df:∃o n,K.lookup T=some o/\o.data=.seq #[.int i t] n
section
variable {P:Program} {w:World} {K:PySem.W.Frag} {mg:Str->Option Value} {base:Heap}
theorem Fe.ok {x qual:Str} {st:Stmt} {f T:Addr} {i:Int} {t:Tok} {fd:FuncData} {N ps:List Str} {k:Nat} {sp:Sp} (F:Fe K x qual st f fd T i t) (S:aR N ps (aC st)) (len:∀vs H Q E,sp vs H Q E->vs.length=ps.length)
  (hb:∀(cdv:Value) (A:Around) (outer:List Env) (s:Shared) (H:Hp) (vs:List V) (Q:VK) (E:XK),dZ k (A.deeper (envOfC qual (aC st) s.heap.objs.size f cdv))->sp vs H Q E ->
   ∃t,Cq (vo fY P w K mg base N qual (aC st) f cdv A outer s H E).U7 (bI st) t/\t { nx:=fun _ H'=>Q .non H',rt:=Q } (start N vs) H):bD P w K mg base fY (k+1) f fd ps sp:=by
 obtain⟨oc,od,kV,doc,pm,an,cdv,ct,osl,rfl,lk,hcd⟩:=F.ex;exact Q7 lk hcd S len fun A outer s H vs Q E hr hsp=>let ⟨t,h,q⟩:=hb cdv A outer s H vs Q E hr hsp; ⟨t,h.U7,q⟩
theorem Fe.binds {x qual:Str} {st:Stmt} {f T:Addr} {i:Int} {t:Tok} {fd:FuncData} {ps:List Str} {ds:List Value} (F:Fe K x qual st f fd T i t)
  (h:∀(kV doc pm:Value) (an:Option Addr) (cdv ct:Value) (us:List Value),(us++ds).length=ps.length->∃k,bindArgs (PySem.W.fnOf x qual (bN st) (bI st) (aC st) (.ref T) kV doc pm an cdv ct) ⟨us,[]⟩=seqItems? (.ref T) >>= k/\k (some #[.int i t])=pure (ps.zip (us++ds))):Binds K fd ps ds:=by
 obtain⟨oc,od,kV,doc,pm,an,cdv,ct,osl,rfl,lk,hcd⟩:=F.ex;obtain⟨o,n,ho,hd⟩:=F.df;intro s us KX hl;obtain⟨k,h1,h2⟩:=h kV doc pm an cdv ct us hl;exact BindsTo.of_defaults rfl (KX _ _ ho) hd h1 h2
end
structure Jr (P:Program) (w:World) (K:PySem.W.Frag) (mg:Str->Option Value) (base:Heap) (k:Nat) (x:Str) (ps:List Str) (i:Int) (sp:Sp) where
 f:Addr
 fd:FuncData
 t:Tok
 G:bD P w K mg base fY k f fd ps sp
 kp:PySem.W.keepIn K (.ref f)=true
 b:Binds K fd ps []
 bd:Binds K fd ps [.int i t]
 m:mg x=some (.ref f)
def Jr.mono {P:Program} {w:World} {K:PySem.W.Frag} {mg:Str->Option Value} {base:Heap} {j k:Nat} {x:Str} {ps:List Str} {i:Int} {sp:Sp} (c:Jr P w K mg base j x ps i sp) (h:j<=k):Jr P w K mg base k x ps i sp:={ c with G:=c.G.mono h }
section
variable {X:Cx} {x:Str} {p pos:Pos} {e:Expr} {es:List Expr} {t:TA}
theorem pfd {k:Nat} {ps:List Str} {i:Int} {sp:Sp} (c:Jr X.prog X.w X.K X.mg X.base k x ps i sp) (hr:dZ k X.A) (ha:PA X (e::es) t) (hg:Gl X x:=by rfl) (hdb:(x==("__debug__" : Str))=false:=by decide) (h1:b_ e=true:=by rfl) (h2:es.all b_=true:=by rfl) :
  PE X (.Call (.Name x p) (e::es) [] pos) (kI sp [.int i] E0 t):=yI c.G hr hg c.m c.kp c.bd (.cons ⟨_,rfl⟩ .nil) w6 ha hdb (bZ h1) (cJ h2)
theorem pfa {k:Nat} {ps:List Str} {i:Int} {sp:Sp} (c:Jr X.prog X.w X.K X.mg X.base k x ps i sp) (hr:dZ k X.A) (ha:PA X (e::es) t) (hg:Gl X x:=by rfl) (hdb:(x==("__debug__" : Str))=false:=by decide) (h1:b_ e=true:=by rfl) (h2:es.all b_=true:=by rfl) :
  PE X (.Call (.Name x p) (e::es) [] pos) (kI sp [] E0 t):=yI c.G hr hg c.m c.kp c.b .nil w6 ha hdb (bZ h1) (cJ h2)
end
section
variable {X:Cx}
end
def LK (K:PySem.W.Frag) (g:TG) (tb:TS) (D:Ends) (σ:St) (x:V) (H1:Hp):Prop:=∃a,x=.ref a/\(∃xs,cV K H1 a xs)/\∃W:Nat->Nat->St->Hp->Prop,(∃m,W 0 m σ H1)/\∀i m σ H,W i m σ H ->
 ((Rh K a).stop i H/\D.nx σ H)\/((Rh K a).go i H/\∃N:St->Hp->Prop,(∀σ' H',N σ' H'->∃m',m'<m/\W (i+1) m' σ' H')/\∀x H',(Rh K a).Fi i H x H'->g x σ H' fun σ2 H2=>tb { D with nx:=N,ct:=N,bk:=D.nx } σ2 H2)
theorem oX {K:PySem.W.Frag} {tl:TE} {g:TG} {tb:TS} {D:Ends} {σ:St} {H:Hp}:CZ (pO K tl) g tb D σ H=tl σ H (LK K g tb D σ):=rfl
theorem LK.of {K:PySem.W.Frag} {g:TG} {tb:TS} {D:Ends} {σ:St} {H:Hp} {a:Addr} {xs:List V} (ha:H a=some (.lst xs)) (Pv:Nat->St->Hp->Prop) (h0:Pv 0 σ H) (hl:∀i σ H',i<=xs.length->Pv i σ H'->H' a=some (.lst xs))
  (hs:∀i x σ H,xs[i]?=some x->Pv i σ H->g x σ H fun σ2 H2=>tb { D with nx:=Pv (i+1),ct:=Pv (i+1),bk:=D.nx } σ2 H2) (hd:∀σ H,Pv xs.length σ H->D.nx σ H):LK K g tb D σ (.ref a) H:=
 ⟨a,rfl,⟨xs,cV.of ha⟩,LC (xs:=xs) Pv h0 (fun i σ H' hi p=>cV.of (hl i σ H' hi p)) hs hd⟩
end L2
namespace L2
open PySem
mutual
def sZ:PyData->Bool
 | .tuple ds=>bJ ds
 | .list _=>false
 | .dict _=>false
 | .none=>true
 | .bool _=>true
 | .int _=>true
 | .str _=>true
def bJ:List PyData->Bool
 | []=>true
 | d::ds=>sZ d&&bJ ds
end
theorem bz:∀{ds:List PyData},bJ ds=true↔∀d∈ds,sZ d=true
 | []=>by simp[bJ]
 | d::ds=>by
  have ih:=bz (ds:=ds);simp only[bJ,Dt,ih,d_,forall_eq_or_imp]
mutual
theorem At.BJ {G:Hp} {p:Addr} {xs:List V} (hp:G p=some (.lst xs)):∀(d:PyData) (v:V),sZ d=true->At G d v->At (hid p G) d v
 | .none,_,_,h=>by unfold At at h ⊢; exact h
 | .bool _,_,_,h=>by unfold At at h ⊢; exact h
 | .int _,_,_,h=>by unfold At at h ⊢; exact h
 | .str _,_,_,h=>by unfold At at h ⊢; exact h
 | .tuple ds,v,n,h=>by
  unfold At at h ⊢;obtain⟨a,ys,e,h1,h2⟩:=h;refine⟨a,ys,e,?_,aa.BJ hp ds ys (by simpa[sZ] using n) h2⟩
  rw[cg (fun z=>by subst z; rw[hp] at h1; cases h1)]; exact h1
 | .list _,_,n,_=>by simp[sZ] at n
 | .dict _,_,n,_=>by simp[sZ] at n
theorem aa.BJ {G:Hp} {p:Addr} {xs:List V} (hp:G p=some (.lst xs)):∀(ds:List PyData) (ys:List V),bJ ds=true->aa G ds ys->aa (hid p G) ds ys
 | [],_,_,h=>by unfold aa at h ⊢; exact h
 | d::ds,ys,n,h=>by
  unfold aa at h ⊢;obtain⟨x,r,e,h1,h2⟩:=h;have n':sZ d=true/\bJ ds=true:=by simpa[bJ] using n
  exact⟨x,r,e,At.BJ hp d x n'.1 h1,aa.BJ hp ds r n'.2 h2⟩
end
theorem Dc:∀l:List Int,(∀c∈l,0<=c)->0<=l.sum
 | [],_=>by simp
 | x::l,h=>by rw[Ht]; have:=Dc l fun c hc=>h c (n_ _ hc); have:=h x nZ; omega
theorem mJ:∀ws:List Int,PyData.hasDictAll (ws.map .int)=false/\PyData.canLayAll0 (ws.map .int)=true/\PyData.depthAll (ws.map .int)=0
 | []=>⟨rfl,rfl,rfl⟩
 | w::ws=>by
  obtain⟨h1,h2,h3⟩:=mJ ws;refine⟨?_,?_,?_⟩
  ·show(PyData.hasDict (.int w) || PyData.hasDictAll (ws.map .int))=false;rw[h1]; rfl
  ·show(PyData.canLay0 (.int w)&&PyData.canLayAll0 (ws.map .int))=true;rw[h2]; rfl
  ·show max (PyData.depth (.int w)) (PyData.depthAll (ws.map .int))=0;rw[h3]; rfl
theorem take_snoc {α:Type} {l:List α} {i:Nat} {c:α} (h:l[i]?=some c):l.take (i+1)=l.take i++[c]:=by
 obtain⟨hi,e⟩:=eN.mp h;rw[List.take_succ_eq_append_getElem hi,e]
theorem SX.same {p:Addr} {H H':Hp} (hp:H p=none) (s:SX p H H'):aL H H':=fun b o h=>by
 have hb:b≠p:=fun z=>by rw[z,hp] at h; cases h
 exact s.get hb h
theorem wY {ts:List Str} {i:Int} (h0:0<=i) (h1:i<ts.length):∃t,t∈ts/\Ck (ts.map V.str) i=some (.str t):=by
 have hi:i.toNat<ts.length:=by omega
 refine⟨ts[i.toNat],yr hi,?_⟩;have:=aU (xs:=ts.map V.str) (j:=i.toNat) (v:=.str ts[i.toNat]) (by rw[dw,gG hi]; rfl)
 rwa [show((i.toNat:Nat):Int)=i by omega] at this
theorem mH {ts:List Int} {i:Int} (h0:0<=i) (h1:i<ts.length):∃t,t∈ts/\Ck (ts.map V.int) i=some (.int t):=by
 have hi:i.toNat<ts.length:=by omega
 refine⟨ts[i.toNat],yr hi,?_⟩;have:=aU (xs:=ts.map V.int) (j:=i.toNat) (v:=.int ts[i.toNat]) (by rw[dw,gG hi]; rfl)
 rwa [show((i.toNat:Nat):Int)=i by omega] at this
def nj (a b:TS):TS:=Hh a b
theorem FT (i:Nat) {e:TE} {b:TS}:Hh (tW e (fM i)) b=nj (tW e (fM i)) b:=rfl
theorem Wb {c:TT} {x y b:TS}:Hh (Hi c x y) b=nj (Hi c x y) b:=rfl
theorem nj.of {a b:TS} {D:Ends} {σ:St} {H:Hp} (R:St->Hp->Prop) (hR:∀σ' H',R σ' H'->b D σ' H') (h:∀N:St->Hp->Prop,(∀σ' H',R σ' H'->N σ' H')->a { D with nx:=N } σ H):nj a b D σ H:=h _ hR
theorem Tc {α:Type} {l:List α} (h:l.length=5):∃a b c d e,l=[a,b,c,d,e]:=by
 match l,h with
 | [a,b,c,d,e],_=>exact⟨a,b,c,d,e,rfl⟩
theorem aL.eV {H H':Hp} {p:Addr} {o:HO} (s:aL H H') (hp:H p=none):aL H (upd H' p o):=fun b u h=>by rw[aJ (cC h hp)]; exact s _ _ h
end L2
namespace L2
open PySem PySem.Spec PyProof.Rows
section
variable {X:Cx}
end
structure sS (X:Cx) (nt:Nat) (N':List Str) (js:List Nat) (sc:Scope):Prop where
 kind:sc.kind=.function
 jZ:∀y∈sc.names,y.2≠.cell
 names:∀y∈sc.names,y.2=.local->sc.names.lookup y.1=some .local
 clos:closureFor sc X.env=pure (oM sc X.env)
 all:(sc.names.all fun y=>y.2 != .free || (X.env.cells.lookup y.1).isSome)=true
 len:N'.length=nt+js.length
 cap:∀(i j:Nat),js[i]?=some j->N'[nt+i]?=X.N[j]?
 Mp:∀y∈N'.drop nt,X.env.kindOf y=some .cell/\sc.names.lookup y=some .free
theorem pZ:∀(names:List (Str×NameKind)) (h:Heap) (acc:List (Str×Addr)) (x:Str) (c:Addr),(cellsFrom h.objs.size names acc).lookup x=some c->((pushCells h names).IsCell c none/\h.objs.size<=c)\/(acc.lookup x=some c/\(x,NameKind.cell)∉names)
 | [],h,acc,x,c,e=>.inr ⟨e,by simp⟩
 | (name,kind)::r,h,acc,x,c,e=>by
  unfold cellsFrom at e;unfold pushCells;split at e
  ·rename_i hk;have hk':kind=.cell:=by simpa using hk
   rw[a_ hk];have:=pZ r (h.push { cls:=.type "cell",data:=.cell none }) ((name,h.objs.size)::acc) x c (by rw[gY]; exact e)
   rw[gY] at this;rcases this with⟨z,z'⟩ | ⟨z,z'⟩
   ·exact .inl ⟨z,by omega⟩
   ·rw[qI] at z;cases hx:x==name with
    | true=>
     rw[hx] at z;cases z;refine .inl ⟨?_,bG _⟩;exact⟨_,pushCells_keeps r _ _ _ (dN _ rfl),rfl⟩
    | false=>
     rw[hx] at z;refine .inr ⟨z,fun m=>?_⟩;rcases d_.mp m with q | q
     ·have:x=name:=(Prod.mk.inj q).1;simp[this] at hx
     ·exact z' q
  ·rename_i hk;rw[aV hk];rcases pZ r h acc x c e with z | ⟨z,z'⟩
   ·exact .inl z
   ·refine .inr ⟨z,fun m=>?_⟩;rcases d_.mp m with q | q
    ·exact hk (by rw[<- (Prod.mk.inj q).2]; rfl)
    ·exact z' q
theorem Er:∀(names:List (Str×NameKind)) (n:Nat) (acc:List (Str×Addr)),(∀x y c,acc.lookup x=some c->acc.lookup y=some c->x=y)->(∀x c,acc.lookup x=some c->c<n) ->
  (∀x y c,(cellsFrom n names acc).lookup x=some c->(cellsFrom n names acc).lookup y=some c->x=y)/\True
 | [],n,acc,h,_=>⟨h,trivial⟩
 | (name,kind)::r,n,acc,h,hb=>by
  unfold cellsFrom;split
  ·refine Er r (n+1) ((name,n)::acc) (fun x y c e1 e2=>?_) (fun x c e=>?_)
   ·rw[qI] at e1 e2;cases hx:x==name with
    | true=>
     rw[hx] at e1;cases e1;cases hy:y==name with
     | true=>rw[beq_iff_eq.mp hx,beq_iff_eq.mp hy]
     | false=>rw[hy] at e2; exact absurd (hb _ _ e2) (rN _)
    | false=>
     rw[hx] at e1;cases hy:y==name with
     | true=>rw[hy] at e2; cases e2; exact absurd (hb _ _ e1) (rN _)
     | false=>rw[hy] at e2; exact h x y c e1 e2
   ·rw[qI] at e;cases hx:x==name with
    | true=>rw[hx] at e; cases e; exact A_ _
    | false=>rw[hx] at e; exact Bb (hb _ _ e)
  ·exact Er r n acc h hb
theorem Es {x:Str}:∀(names:List (Str×NameKind)) (n:Nat) (acc:List (Str×Addr)),((x,NameKind.cell)∈names\/(acc.lookup x).isSome=true)->((cellsFrom n names acc).lookup x).isSome=true
 | [],n,acc,h=>by
  rcases h with h | h
  ·simp at h
  ·exact h
 | (name,kind)::r,n,acc,h=>by
  unfold cellsFrom;split
  ·rename_i hk;refine Es r (n+1) _ ?_;rcases h with h | h
   ·rcases d_.mp h with q | q
    ·refine .inr ?_;rw[qI,(Prod.mk.inj q).1];simp
    ·exact .inl q
   ·refine .inr ?_;rw[qI];split
    ·rfl
    ·exact h
  ·rename_i hk;refine Es r n acc ?_;rcases h with h | h
   ·rcases d_.mp h with q | q
    ·exact absurd (by rw[<- (Prod.mk.inj q).2]; rfl) hk
    ·exact .inl q
   ·exact .inr h
theorem zN {x:Str} {c:Addr}:∀(names:List (Str×NameKind)) (n:Nat) (acc:List (Str×Addr)),(x,NameKind.cell)∉names->acc.lookup x=some c->(cellsFrom n names acc).lookup x=some c
 | [],n,acc,_,e=>e
 | (name,kind)::r,n,acc,h,e=>by
  unfold cellsFrom;split
  ·rename_i hk;refine zN r (n+1) _ (fun m=>h (n_ _ m)) ?_;rw[qI];cases hx:x==name with
   | true=>
    have hk':kind=.cell:=by simpa using hk
    exact absurd (by rw[beq_iff_eq.mp hx,hk']; exact nZ) h
   | false=>exact e
  ·exact zN r n acc (fun m=>h (n_ _ m)) e
theorem m_ {M:Model} {A:Around} {E:Value->Shared->Prop} {s:Shared} {scope:Scope} {globals:Addr} {cl:List (Str×Addr)} {qual:Str} {env:Env} {Q:Env->Shared->Prop}
  (hQ:Q { scope,locals:=s.heap.objs.size,globals,cells:=cellsFrom (s.heap.objs.size+1) scope.names cl,qual,func:=none,code:=env.code,frame:=env.frame,builtins:=env.builtins } { s with heap:=pushCells (s.heap.push { cls:=.type "dict",data:=.dict #[] }) scope.names }) :
  wpAny M A (newFunctionEnv scope globals cl [] qual none .none (some env)) Q E s:=by
 simp only[newFunctionEnv,Option.isSome_some,if_true];refine aP (wpAny_alloc ?_);refine aP (wpAny_layCells _ (fun name kind cells=>by cases hkc:kind==NameKind.cell <;> simp[hkc]) _ _ _ _ ?_)
 rw[show({ s with heap:=s.heap.push { cls:=.type "dict",data:=.dict #[] } }:Shared).heap.objs.size=s.heap.objs.size+1 from gY ..]
 simp only[Bf];exact aP (bW (bW hQ))
def mQ (X:Cx) (N':List Str) (sc:Scope) (fp:List Addr) (s:Shared) (H:Hp):Cx where
 prog:=X.prog
 w:=X.w
 K:=X.K
 mg:=X.mg
 base:=X.base
 A:=X.A
 N:=N'
 s₀:=s
 H₀:=H
 env:=compEnvC sc (cellsFrom (s.heap.objs.size+1) sc.names (oM sc X.env)) s.heap.objs.size X.env
 outer:=X.stack
 stack:=X.stack
 ex:=fp
 fn:=fun y=>sc.names.lookup y==some .cell
 calm:=X.calm
 pn:=[]
 xe:=fun _ _=>False
structure ql (X:Cx) (nt:Nat) (N':List Str) (js:List Nat) (sc:Scope):Prop where
 kind:sc.kind=.function
 cells:∀y∈sc.names,y.2=.cell->sc.names.lookup y.1=some .cell
 names:∀y∈sc.names,y.2=.local->sc.names.lookup y.1=some .local
 clos:closureFor sc X.env=pure (oM sc X.env)
 all:(sc.names.all fun y=>y.2 != .free || (X.env.cells.lookup y.1).isSome)=true
 len:N'.length=nt+js.length
 cap:∀(i j:Nat),js[i]?=some j->N'[nt+i]?=X.N[j]?
 Mp:∀y∈N'.drop nt,X.env.kindOf y=some .cell/\sc.names.lookup y=some .free
theorem xn {X:Cx} {pins:List (Addr×Obj)} {σ:St} {H:Hp} {s:Shared} {fp:List Addr} {N':List Str} {js:List Nat} {sc:Scope} {nt:Nat} {h1:Heap} {tk:Nat} (I:Inv X pins σ H s) (hf:∀b∈fp,fK X pins H b) (hlt:∀b∈fp,b<s.heap.objs.size)
  (S:ql X nt N' js sc) (zO:∀{x:Str} {c:Addr},(cellsFrom (s.heap.objs.size+1) sc.names (oM sc X.env)).lookup x=some c->(h1.IsCell c none/\s.heap.objs.size<c)\/((oM sc X.env).lookup x=some c/\(x,NameKind.cell)∉sc.names)) (hn:h1.Ns s.heap.objs.size fun _=>none) (hk:∀b o,s.heap.get? b=some o->h1.get? b=some o):Inv (mQ X N' sc fp s H) [] (List.replicate nt none++cH js σ) H { s with heap:=h1,toks:=tk }:=by
 have old:∀x c,(oM sc X.env).lookup x=some c->c<s.heap.objs.size+1:=fun x c e=>by
  obtain⟨v,o,ho,_⟩:=I.cell x c (fU e);exact Bb (b8 ho)
 refine⟨⟨I.ok.mod,S.kind,I.ok.glob,I.ok.blt,bG _,fun x y c e1 e2=>(Er sc.names _ _ (fun x y c e1 e2=>I.ok.inj x y c (fU e1) (fU e2)) old).1 x y c e1 e2,fun x hx=>?_,fun x c hf' e=>(by
   rcases zO e with z | ⟨_,z⟩
   ·exact pH z.2
   ·exact absurd (PySem.mem_of_lookup (show sc.names.lookup x=some .cell from by simpa using(show(sc.names.lookup x==some NameKind.cell)=true from hf'))) z),I.ok.hd,I.ok.frames,.inl rfl,fun b hb=>⟨dM (hlt b hb),fun x c e=>(by
   rcases zO e with z | ⟨z,_⟩
   ·exact Aw (Bc (hlt b hb) z.2)
   ·exact(hf b hb).2.2.2.2.1 x c (fU z))⟩,I.bs,
  kj I.ok.My I.sz,fun b o e hb=>?_,fun b hb z=>?_,I.stack,I.Fx⟩,rfl,I.bare,Un.kept hk,⟨fun _=>none,hn,fun i x v e1 e2 e3=>?_⟩,fun x c e=>?_,I.hok.fresh (bG _),fun x c e=>(by
   rcases zO e with z | ⟨z,_⟩
   ·exact I.hok.fresh (pH z.2)
   ·exact I.jN x c (fU z)),fun p hp=>absurd (show p∈([]:List (Addr×Obj)) from hp) (by simp),I.hok.kept hk,?_⟩
 ·refine Kp.mp (Es sc.names _ _ ?_);have hx':(relabel sc X.env).names.lookup x=some .cell\/(relabel sc X.env).names.lookup x=some .free:=hx
  have key:(x,NameKind.cell)∈sc.names\/(x,NameKind.free)∈sc.names:=by
   rcases hx' with q | q
   ·obtain⟨k,hm,e | ⟨e,_⟩⟩:=rC q
    ·rw[<- e] at hm; exact .inl hm
    ·refine .inr ?_; rw[<- e]; exact hm
   ·refine .inr ?_;obtain⟨k,hm,e | ⟨e,_⟩⟩:=rC q
    ·rw[e]; exact hm
    ·rw[<- e]; exact hm
  rcases key with key | key
  ·exact .inl key
  have a:=mW.mp S.all _ key;have a':(X.env.cells.lookup x).isSome=true:=by simpa using a
  obtain⟨c,hc⟩:=Kp.mp a';exact .inr (Kp.mpr ⟨c,Ep hc sc.names [] key⟩)
 ·rcases(hf b hb).2.2.2.1 with z | z
  ·exact I.ok.Ii b o e z
  ·exact absurd (mX (b8 e) (kj I.ok.My z)) (rN _)
 ·rcases d_.mp (I.De b z) with q | q
  ·exact(hf b hb).2.1 q
  ·exact(hf b hb).2.2.1 q
 ·by_cases hlt:i<nt
  ·rw[Om (by rw[qJ]; exact hlt),Oj,a_ hlt] at e2
   cases e2
  ·obtain⟨i',rfl⟩:∃i',i=nt+i':=⟨i-nt,by omega⟩
   rw[HH (by rw[qJ]; omega),qJ,Nat.add_sub_cancel_left] at e2
   have e2':(cH js σ)[i']?=some (some v):=e2;unfold cH at e2';rw[dw] at e2';cases hj:js[i']? with
   | none=>rw[hj] at e2'; simp at e2'
   | some j=>
    rw[hj] at e2';have e4:(σ[j]?).join=some v:=by simpa using e2'
    have e5:σ[j]?=some (some v):=by
     cases q:σ[j]? with
     | none=>rw[q] at e4; simp at e4
     | some z=>rw[q] at e4; simp at e4; rw[e4]
    have e6:X.N[j]?=some x:=by rw[<- S.cap i' j hj]; exact e1
    have mem:x∈N'.drop nt:=by
     have e1':N'[nt+i']?=some x:=e1;exact oh (i:=i') (by rw[Ko]; exact e1')
    obtain⟨k1,k2⟩:=S.Mp x mem;obtain⟨m,_,hl⟩:=I.loc;obtain⟨u,r,l⟩:=hl j x v e6 e5 (.inr (.inl k1));refine⟨u,r,.inr ⟨.inl (pG I.ok.kind k1 sc.names k2),?_⟩⟩;rcases l with⟨z,_⟩ | ⟨_,c,hc,hcell⟩
    ·rw[k1] at z; cases z
    ·obtain⟨o,ho,hd⟩:=hcell;exact⟨c,zN sc.names _ _ (fun z=>by have:=S.cells _ z rfl; rw[k2] at this; cases this) (Ep hc sc.names [] (PySem.mem_of_lookup k2)),o,hk c o ho,hd⟩
 ·rcases zO e with z | ⟨z,_⟩
  ·exact⟨none,z.1⟩
  ·obtain⟨v,o,ho,hd⟩:=I.cell x c (fU z);exact⟨v,o,hk c o ho,hd⟩
 ·show(List.replicate nt none++cH js σ).length=N'.length;rw[S.len]; simp[cH]
theorem GX:∀{names:List (Str×NameKind)} {n:Nat} {acc:List (Str×Addr)},(∀y∈names,y.2≠.cell)->cellsFrom n names acc=acc
 | [],_,_,_=>rfl
 | (name,kind)::r,n,acc,h=>by
  unfold cellsFrom;rw[aV (fun z=>h _ nZ (by simpa using z))]
  exact GX fun y hy=>h y (n_ _ hy)
theorem xK {X:Cx} {N':List Str} {sc:Scope} {fp:List Addr} {s:Shared} {H:Hp} (h:∀y∈sc.names,y.2≠.cell):M5 X N' sc fp s H=mQ X N' sc fp s H:=by
 have e:(fun _:Str=>false)=fun y=>sc.names.lookup y==some .cell:=funext fun y=>by
  cases z:sc.names.lookup y==some NameKind.cell with
  | false=>rfl
  | true=>exact absurd rfl (h _ (PySem.mem_of_lookup (by simpa using z)))
 unfold M5 mQ;rw[GX h,e]
theorem sS.toD {X:Cx} {nt:Nat} {N':List Str} {js:List Nat} {sc:Scope} (S:sS X nt N' js sc):ql X nt N' js sc:=⟨S.kind,fun y hy e=>absurd e (S.jZ y hy),S.names,S.clos,S.all,S.len,S.cap,S.Mp⟩
structure Cr (X:Cx) (ifs:List Expr) (t:TT):Prop where
 mk ::
 go:∀(pins:List (Addr×Obj)) (s:Shared) (σ:St) (H:Hp) (Q:Bool->Hp->Prop),Inv X pins σ H s->t σ H Q->wpAny (model X.prog X.w) X.A (forIn ifs true fun c r=>if r=true then do let ok <- isTrue c X.env (eval c X.env); pure (ForInStep.yield ok) else pure (ForInStep.yield r)) (TP X pins σ Q) X.xe s
instance {X:Cx} {ifs:List Expr} {t:TT}:CoeFun (Cr X ifs t) (fun _=>
 ∀(pins:List (Addr×Obj)) (s:Shared) (σ:St) (H:Hp) (Q:Bool->Hp->Prop),Inv X pins σ H s->t σ H Q->wpAny (model X.prog X.w) X.A (forIn ifs true fun c r=>if r=true then do let ok <- isTrue c X.env (eval c X.env); pure (ForInStep.yield ok) else pure (ForInStep.yield r)) (TP X pins σ Q) X.xe s):=⟨Cr.go⟩
def Hk:TT:=fun _ H Q=>Q true H
theorem j4 {X:Cx}:Cr X [] Hk:=.mk fun pins s σ H Q I h=>wpAny_tests_nil ⟨H,I,h⟩
def jQ (nt:Nat) (js:List Nat) (wi:TI) (g:TG) (tc:TT) (te:TE):TE:=fun σ H Q=>wi σ H fun J H1=>∀acc,H1 acc=none->∃W:Nat->Nat->List V->Hp->Prop,(∃m,W 0 m [] (upd H1 acc (.lst [])))/\∀i m ys H2,W i m ys H2 ->
 (J.stop i H2/\Q (.ref acc) H2)\/(J.go i H2/\∀x H3,J.Fi i H2 x H3->g x (List.replicate nt none++cH js σ) H3 fun σ' H'=>(σ'.drop nt=cH js σ/\σ'.length=(List.replicate nt (none:Option V)++cH js σ).length)/\tc σ' H' fun b qj=>
  if b=true then te σ' qj fun y H4=>H4 acc=some (.lst ys)/\ys.length<sizeLine/\∃m',m'<m/\W (i+1) m' (ys++[y]) (upd H4 acc (.lst (ys++[y]))) else ∃m',m'<m/\W (i+1) m' ys qj)
theorem zL {prog:Program} {w:World} {A:Around} {R:Result->Shared->Prop} {s:Shared} {elt target iter:Expr} {ifs:List Expr} {sc:Scope} {pos:Pos} {it acc:Value} {env:Env} (Iv:Nat->Shared->Prop)
  (turn:∀n s,Iv n s->wpAny (model prog w) A (pyNext it) (fun r s1=>match r with
   | none=>R (.ok .next) s1
   | some v=>wpAny (model prog w) A (letOwnedTupleGo target it v) (fun _ s2=>wpAny (model prog w) A (assign target env v) (fun _ s3=>
     wpAny (model prog w) A (forIn ifs true fun c r=>if r=true then do let ok <- isTrue c env (eval c env); pure (ForInStep.yield ok) else pure (ForInStep.yield r)) (fun ok ZX=>
     if ok=true then wpAny (model prog w) A (eval elt env) (fun x s4=>
     wpAny (model prog w) A (call (.builtin "list.append") [acc,x]) (fun _ s5=>∃m,m<n/\Iv m s5) (fun _ _=>False) s4) (fun _ _=>False) ZX else ∃m,m<n/\Iv m ZX) (fun _ _=>False) s3) (fun _ _=>False) s2) (fun _ _=>False) s1) (fun _ _=>False) s)
  (n:Nat) (h:Iv n s):codeAny (model prog w) A (.compLoop (.ListComp elt [⟨target,iter,ifs,0⟩] sc pos) 0 it acc env) R s:=by
 refine codeAny_loop rfl Iv (fun n s hI=>?_) n h;show wpAny _ _ ((compTurn (.ListComp elt [⟨target,iter,ifs,0⟩] sc pos) 0 it acc env).onRaise (fun x=>do noteFrame x env; theTreesLotGoes x)) _ _ s
 refine wpAny_noted ?_;rw[compTurn_list];refine aP (yq (aP (mU (turn n s hI) (fun r s1 q1=>?_) fun _ _ f=>f.elim)));cases r with
 | none=>exact bW q1
 | some v=>
  refine aP (mU q1 (fun _ s2 q2=>?_) fun _ _ f=>f.elim);refine aP (mU q2 (fun _ s3 q3=>aP (mU q3 (fun ok ZX q3'=>?_) fun _ _ f=>f.elim)) fun _ _ f=>f.elim);cases ok with
  | false=>exact bW ⟨rfl,q3'⟩
  | true=>exact aP (aP (mU q3' (fun x s4 q4=>aP (mU q4 (fun _ s5 q5=>bW (bW ⟨rfl,q5⟩)) fun _ _ f=>f.elim)) fun _ _ f=>f.elim))
theorem vq {X:Cx} {elt iter:Expr} {tg:Expr} {ifs:List Expr} {g:TG} {tc:TT} {nt:Nat} {pos:Pos} {sc:Scope} {wi:TI} {te:TE} {N':List Str} {js:List Nat} {use:Option (Value->Sem Unit)} {Qc:Value->Shared->Prop} {pins:List (Addr×Obj)} {s:Shared} {σ:St} {H:Hp} {Q:VK} {kp:Pos} (hc:X.calm=true) (hi:PI X tg iter wi) (S:ql X nt N' js sc)
  (hgt:∀fp s H,PG (mQ X N' sc fp s H) tg g) (hif:∀fp s H,Cr (mQ X N' sc fp s H) ifs tc) (he:∀fp s H,PE (mQ X N' sc fp s H) elt te) (hs:∀x,foldedSetIterable iter X.env x=pure x) (I:Inv X pins σ H s) (h:jQ nt js wi g tc te σ H Q)
  (fin:∀(acc C:Addr) (H':Hp) (s':Shared),Inv X pins σ H' s'->fK X pins H' C->(∃m,s'.heap.Ns C m)->Q (.ref acc) H'->compPost (model X.prog X.w) X.A X.xe use Qc (.ref acc) C (.ok .next) s') :
  wpAny (model X.prog X.w) X.A (comprehension (.ListComp elt [⟨tg,iter,ifs,0⟩] sc pos) sc X.env kp (newList []) false (eval iter X.env) use) Qc X.xe s:=by
 refine wpAny_comprehension_free (use:=use) rfl hs S.clos S.kind S.names ?_;refine cz (hi pins s σ H _ I h) fun v s1 q1=>cz q1 fun itv s2 q2=>?_;obtain⟨it,fp,tn,J,H2,e,I2,T,st2,f2,q3⟩:=q2;subst e;refine vQ ?_;obtain⟨W,⟨m0,w0⟩,turn⟩:=q3 s2.heap.objs.size I2.fresh;have I3:=I2.aal (ys:=[]) (its:=[]) (t':=s2.toks) .nil (iY _)
 have W6:∀b∈fp,b<s2.heap.objs.size:=fun b hb=>by
  obtain⟨o,ho,_⟩:=T.obj 0 _ st2 b hb;exact b8 ho
 generalize e3:({ s2 with heap:=s2.heap.push { cls:=.type "list",data:=.seq ([]:List Value).toArray },toks:=s2.toks }:Shared)=s3 at I3
 have e3':({ s2 with heap:=s2.heap.push { cls:=.type "list",dict:=none,data:=.seq ([]:List Value).toArray } }:Shared)=s3:=e3
 have ZP:s3.heap.objs.size=s2.heap.objs.size+1:=by rw[<- e3]; exact gY ..
 have st3:tn 0 s3.heap:=T.keep 0 _ _ st2 fun b hb o ho=>by rw[<- e3]; exact e_ _ ho
 have W5:∀b∈fp,b<s3.heap.objs.size:=fun b hb=>by rw[ZP]; exact Bb (W6 b hb)
 have f3:∀b∈fp,fK X pins (upd H2 s2.heap.objs.size (.lst [])) b:=fun b hb=>⟨by rw[aJ (dM (W6 b hb))]; exact(f2 b hb).1,(f2 b hb).2⟩
 generalize hH3:upd H2 s2.heap.objs.size (.lst [])=H3 at I3 f3 w0;refine m_ ?_;generalize Uc:pushCells (s3.heap.push { cls:=.type "dict",data:=.dict #[] }) sc.names=h1;have hk:∀b o,s3.heap.get? b=some o->h1.get? b=some o:=fun b o q=>by rw[<- Uc]; exact pushCells_keeps _ _ b o (e_ _ q)
 have hns':h1.Ns s3.heap.objs.size fun _=>none:=by rw[<- Uc]; exact(Heap.Ns.new s3.heap (.type "dict")).keeps (pushCells_keeps _ _)
 have I4:Inv (mQ X N' sc fp s3 H3) [] (List.replicate nt none++cH js σ) H3 { s3 with heap:=h1,toks:=s3.toks }:=xn I3 f3 W5 S (fun {x c} e=>by
  have:=pZ sc.names (s3.heap.push { cls:=.type "dict",data:=.dict #[] }) (oM sc X.env) x c (by rw[gY]; exact e)
  rw[Uc,gY] at this
  exact this) hns' hk
 have V7:tn 0 h1:=T.keep 0 _ _ st3 fun b hb o ho=>hk b o ho;have stat:∀{H':Hp},(∀b∈fp,H' b=none)->∀b∈fp,fK (mQ X N' sc fp s3 H3) [] H' b:=fun hn b hb=>⟨hn b hb,dM (W5 b hb),I4.ok.Jf b hb,.inl hb,(I4.ok.YM b hb).2,fun p hp=>absurd (show p∈([]:List (Addr×Obj)) from hp) (by simp)⟩
 have out:∀{σ':St} {H':Hp} {s':Shared},Inv (mQ X N' sc fp s3 H3) [] σ' H' s'->Q (.ref s2.heap.objs.size) H'->compPost (model X.prog X.w) X.A X.xe use Qc (.ref s2.heap.objs.size) s3.heap.objs.size (.ok .next) s':=by
  intro σ' H' s' I' q';obtain⟨m,hn,_⟩:=id I'.loc;have I5:Inv X pins σ H' s':=I3.call' I'.os I'.base I'.hok I'.bare fun b hb=>⟨(f3 b hb).2.2.2.1,(f3 b hb).2.1,(f3 b hb).2.2.2.2.1,(f3 b hb).2.2.2.2.2⟩;exact fin _ _ H' s' I5 (I3.vg (bG _) I'.free) ⟨m,hn⟩ q'
 have loop:∀s4:Shared,s4={ s3 with heap:=h1,toks:=s3.toks }->codeAny (model X.prog X.w) X.A (.compLoop (.ListComp elt [⟨tg,iter,ifs,0⟩] sc pos) 0 (.ref it) (.ref s2.heap.objs.size) (compEnvC sc (cellsFrom (s3.heap.objs.size+1) sc.names (oM sc X.env)) s3.heap.objs.size X.env))
   (compPost (model X.prog X.w) X.A X.xe use Qc (.ref s2.heap.objs.size) s3.heap.objs.size) s4:=by
  rintro s4 rfl;refine zL (fun n s'=>∃i ys H',Inv (mQ X N' sc fp s3 H3) [] (List.replicate nt none++cH js σ) H' s'/\tn i s'.heap/\(∀b∈fp,H' b=none)/\W i n ys H') ?_ m0 ⟨0,[],H3,I4,V7,fun b hb=>(f3 b hb).1,w0⟩;rintro n s5 ⟨i,ys,H5,I5,NK,TY,w5⟩;rcases turn i n ys H5 w5 with⟨stop,qn⟩ | ⟨go,step⟩
  ·refine cz (T.done (mQ X N' sc fp s3 H3) rfl rfl rfl hc i [] s5 _ H5 (fun _ _=>False) I5 (stat TY) NK stop) fun r s6 qx=>?_;obtain⟨hr,I6⟩:=qx;subst hr;exact out I6 qn
  ·refine cz (T.item (mQ X N' sc fp s3 H3) rfl rfl rfl hc i [] s5 _ H5 (fun _ _=>False) I5 (stat TY) NK go) fun r s6 qx=>?_;obtain⟨u,hr,q6⟩:=qx;subst hr;refine cz q6 fun _ s7 qx=>?_;obtain⟨y,H7,I7,r7,y7,NB,Q6⟩:=qx;have I7':=I7.pinned (stat Q6) (T.obj _ _ NB);refine cz (hgt fp s3 H3 _ s7 _ H7 y u _ I7' r7 (step y _ y7)) fun _ s8 qx=>?_;obtain⟨σ8,H8,I8,hsh,q8⟩:=qx;refine cz (hif fp s3 H3 _ s8 _ _ _ I8 q8) fun b s8' qx=>?_;obtain⟨H8',Zh,Yn⟩:=qx
   have wk:∀k v,(List.replicate nt none++cH js σ)[k]?=some (some v)->σ8[k]?=some (some v):=fun k v e=>by
    by_cases hlt:k<nt
    ·rw[Om (by rw[qJ]; exact hlt),Oj,a_ hlt] at e
     cases e
    ·rw[HH (by rw[qJ]; omega),qJ,<- hsh.1,Ko] at e
     rw[show nt+(k-nt)=k by omega] at e
     exact e
   cases b with
   | true=>
    rw[a_ rfl] at Yn ⊢;refine cz (he fp s3 H3 _ s8' _ _ _ Zh Yn) fun z s9 qx=>?_;obtain⟨vz,H9,I9,r9,ha,hz,m',hm,w9⟩:=qx;refine cz (dU (X:=mQ X N' sc fp s3 H3) _ s9 _ H9 (.ref s2.heap.objs.size) [vz] (.ref s2.heap.objs.size) [z] (fun _ H'=>H'=upd H9 s2.heap.objs.size (.lst (ys++[vz]))) I9 rfl (.cons r9 .nil) ⟨_,ys,vz,rfl,rfl,ha,hz,rfl⟩) fun _ yj qx=>?_;obtain⟨_,G6,Vr,_,e10⟩:=qx;subst e10;refine⟨m',hm,i+1,ys++[vz],_,(Vr.gB).weak hsh.2.symm wk,T.keep _ _ _ NB fun b hb o e=>(Vr.pin (b,o) (gH _ (gH _ (cU hb e)))).1,fun b hb=>?_,w9⟩;obtain⟨o,e,d⟩:=T.obj _ _ NB b hb;exact(Vr.pin (b,o) (gH _ (gH _ (cU hb e)))).2.1
   | false=>
    rw[aV (by decide)] at Yn ⊢
    obtain⟨m',hm,w9⟩:=Yn;refine⟨m',hm,i+1,ys,_,(Zh.gB).weak hsh.2.symm wk,T.keep _ _ _ NB fun b hb o e=>(Zh.pin (b,o) (gH _ (gH _ (cU hb e)))).1,fun b hb=>?_,w9⟩;obtain⟨o,e,d⟩:=T.obj _ _ NB b hb;exact(Zh.pin (b,o) (gH _ (gH _ (cU hb e)))).2.1
 exact codeAny_compStart_list (loop _ rfl) (T.self X.A 0 _ _ _ V7 (loop _ rfl))
theorem Kv {X:Cx} {elt iter:Expr} {tg:Expr} {ifs:List Expr} {g:TG} {tc:TT} {nt:Nat} {y:Str} {py pos spos:Pos} {sc:Scope} {wi:TI} {te:TE} {N':List Str} {js:List Nat} {i:Nat} (hN:X.N.Nodup) (hi':X.N[i]?=some y) (hy:Loc X.env.scope y) (hc:X.calm=true) (hi:PI X tg iter wi) (S:ql X nt N' js sc)
  (hgt:∀fp s H,PG (mQ X N' sc fp s H) tg g) (hif:∀fp s H,Cr (mQ X N' sc fp s H) ifs tc) (he:∀fp s H,PE (mQ X N' sc fp s H) elt te) (hs:∀x,foldedSetIterable iter X.env x=pure x:=by intro _; rfl) (hw:swapsWith (.ListComp elt [⟨tg,iter,ifs,0⟩] sc pos) (some (.Name y py)) spos.line X.env=pure true:=by rfl)
  (hf:X.fn y=true\/X.env.scope.names.lookup y=some .local:=by first | exact .inl rfl | exact .inr rfl | assumption) :
  PS X (.Assign [.Name y py] (.ListComp elt [⟨tg,iter,ifs,0⟩] sc pos) spos) (tW (jQ nt js wi g tc te) (fM i)):=by
 refine .mk ?_;intro pins s σ H D I h;rw[exec_Assign_Name_used _ _ _ _ hw];refine aP (yq (aP ?_));refine aP (vq hc hi S hgt hif he hs I h fun acc C H' s' I5 fc ⟨m,hn⟩ q=>?_)
 have ho:∀b∈[C],∃o,s'.heap.get? b=some o/\∀v,o.data≠.cell v:=fun b hb=>by
  rw[gF.mp hb];obtain⟨o,es,n,e,ed,_⟩:=hn;exact⟨o,e,fun v z=>by rw[ed] at z; cases z⟩
 have I6:=I5.pinned (fp:=[C]) (fun b hb=>by rw[gF.mp hb]; exact fc) ho
 have hg:PG X (.Name y py) (fM i):=aF hN hi' hy hf;show wpAny _ _ (assign (.Name y py) X.env (.ref acc)) (fun _ s''=>∃m,s''.heap.Ns C m/\∀h',Heap.SameBut C s''.heap h'->_) _ s';refine cz (hg _ s' _ H' (.ref acc) (.ref acc) _ I6 rfl q) fun _ s7 qx=>?_;obtain⟨σ7,H7,I7,q7⟩:=qx
 have pc:∀o,s'.heap.get? C=some o->s7.heap.get? C=some o/\H7 C=none:=fun o e=>by
  have:=I7.pin (C,o) (gH _ (gH _ (cU (by simp) e)))
  exact⟨this.1,this.2.1⟩
 refine⟨m,hn.at fun o e=>(pc o e).1,fun h' sb=>bW (bW ⟨σ7,H7,?_,q7⟩)⟩
 have fr:H7 C=none:=by
  obtain⟨o,es,n,e,ed,_⟩:=hn;exact(pc o e).2
 exact I7.gB.turned (it:=C) (t':=s7.toks) (fun b o hb e=>sb.extBut b o hb e) fr fc.2.1 fc.2.2.2.1 fc.2.2.2.2.1 fc.2.2.2.2.2
theorem KH {X:Cx} {elt iter tg:Expr} {ifs:List Expr} {g:TG} {tc:TT} {nt:Nat} {pos:Pos} {sc:Scope} {wi:TI} {te:TE} {N':List Str} {js:List Nat} (hc:X.calm=true) (hi:PI X tg iter wi) (S:ql X nt N' js sc)
  (hgt:∀fp s H,PG (mQ X N' sc fp s H) tg g) (hif:∀fp s H,Cr (mQ X N' sc fp s H) ifs tc) (he:∀fp s H,PE (mQ X N' sc fp s H) elt te) (hs:∀x,foldedSetIterable iter X.env x=pure x:=by intro _; rfl):PE X (.ListComp elt [⟨tg,iter,ifs,0⟩] sc pos) (jQ nt js wi g tc te):=by
 refine .mk ?_;intro pins s σ H Q I h;rw[eval_ListComp];refine vq (use:=none) hc hi S hgt hif he hs I h fun acc C H' s' I5 fc ⟨m,hn⟩ q=>?_;refine⟨m,hn,fun h' sb=>?_⟩;exact⟨.ref acc,H',I5.turned (it:=C) (t':=s'.toks) (fun b o hb q=>sb.extBut b o hb q) fc.1 fc.2.1 fc.2.2.2.1 fc.2.2.2.2.1 fc.2.2.2.2.2,rfl,q⟩
theorem ql.of {X:Cx} {nt:Nat} {N':List Str} {js:List Nat} {sc:Scope} (k:sc.kind=.function:=by rfl) (n:(sc.names.all fun y=>y.2 != .cell || sc.names.lookup y.1==some .cell)=true:=by decide +kernel)
  (l:(sc.names.all fun y=>y.2 != .local || sc.names.lookup y.1==some .local)=true:=by decide +kernel) (al:(sc.names.all fun y=>y.2 != .free || (X.env.cells.lookup y.1).isSome)=true:=by rfl)
  (ln:N'.length=nt+js.length:=by rfl) (cp:(N'.drop nt).map some=js.map (fun j=>X.N[j]?):=by rfl) (ck:((N'.drop nt).all fun y=>X.env.kindOf y==some .cell&&sc.names.lookup y==some .free)=true:=by rfl):ql X nt N' js sc:=by
 have n':∀y∈sc.names,y.2=.cell->sc.names.lookup y.1=some .cell:=fun y hy hc=>by
  have:=mW.mp n y hy;rw[hc] at this;simpa using this
 refine⟨k,n',lK l,iT al,al,ln,fun i j h=>?_,fun y h=>?_⟩
 ·have:=nR (fun l=>l[i]?) cp;simp only[dw,Ko,h,Option.map_some] at this;cases e:N'[nt+i]? with
  | none=>rw[e] at this; cases this
  | some y=>rw[e] at this; exact Option.some.inj this
 ·have:=mW.mp ck y h;simpa using this
theorem uI {X:Cx} {elt iter:Expr} {tg:Expr} {ifs:List Expr} {g:TG} {tc:TT} {nt:Nat} {y:Str} {py pos spos:Pos} {sc:Scope} {wi:TI} {te:TE} {N':List Str} {js:List Nat} {i:Nat} (hN:X.N.Nodup) (hi':X.N[i]?=some y) (hy:Loc X.env.scope y) (hc:X.calm=true) (hi:PI X tg iter wi) (S:sS X nt N' js sc)
  (hgt:∀fp s H,PG (M5 X N' sc fp s H) tg g) (hif:∀fp s H,Cr (M5 X N' sc fp s H) ifs tc) (he:∀fp s H,PE (M5 X N' sc fp s H) elt te) (hs:∀x,foldedSetIterable iter X.env x=pure x:=by intro _; rfl) (hw:swapsWith (.ListComp elt [⟨tg,iter,ifs,0⟩] sc pos) (some (.Name y py)) spos.line X.env=pure true:=by rfl)
  (hf:X.fn y=true\/X.env.scope.names.lookup y=some .local:=by first | exact .inl rfl | exact .inr rfl | assumption) :
  PS X (.Assign [.Name y py] (.ListComp elt [⟨tg,iter,ifs,0⟩] sc pos) spos) (tW (jQ nt js wi g tc te) (fM i)):=Kv hN hi' hy hc hi S.toD (fun fp s H=>xK S.jZ▸hgt fp s H) (fun fp s H=>xK S.jZ▸hif fp s H) (fun fp s H=>xK S.jZ▸he fp s H) hs hw hf
theorem pJ {X:Cx} {elt iter tg:Expr} {ifs:List Expr} {g:TG} {tc:TT} {nt:Nat} {pos:Pos} {sc:Scope} {wi:TI} {te:TE} {N':List Str} {js:List Nat} (hc:X.calm=true) (hi:PI X tg iter wi) (S:sS X nt N' js sc)
  (hgt:∀fp s H,PG (M5 X N' sc fp s H) tg g) (hif:∀fp s H,Cr (M5 X N' sc fp s H) ifs tc) (he:∀fp s H,PE (M5 X N' sc fp s H) elt te) (hs:∀x,foldedSetIterable iter X.env x=pure x:=by intro _; rfl):PE X (.ListComp elt [⟨tg,iter,ifs,0⟩] sc pos) (jQ nt js wi g tc te):=KH hc hi S.toD (fun fp s H=>xK S.jZ▸hgt fp s H) (fun fp s H=>xK S.jZ▸hif fp s H) (fun fp s H=>xK S.jZ▸he fp s H) hs
theorem qt.toG {X:Cx} {N':List Str} {js:List Nat} {sc:Scope} (S:qt X N' js sc):sS X 1 N' js sc:=⟨S.kind,S.jZ,S.names,S.clos,S.all,by rw[S.len,Nat.add_comm],fun i j h=>by rw[Nat.add_comm]; exact S.cap i j h,fun y h=>S.Mp y (by rw[<- List.drop_one]; exact h)⟩
theorem Fv {js:List Nat} {wi:TI} {te:TE}:ir js wi te=jQ 1 js wi (fM 0) Hk te:=by
 funext σ H Q
 have e:∀(x:V) (H3:Hp) (K1:VK) (K2:Hp->Prop),te (some x::cH js σ) H3 K1=fM 0 x (List.replicate 1 none++cH js σ) H3 fun σ' H'=>(σ'.drop 1=cH js σ/\σ'.length=(List.replicate 1 (none:Option V)++cH js σ).length)/\Hk σ' H' fun b qj=>if b=true then te σ' qj K1 else K2 qj:=fun x H3 K1 K2=>propext ⟨fun h=>⟨⟨rfl,rfl⟩,h⟩,fun h=>h.2⟩
 unfold ir jQ;refine nR (wi σ H) (funext fun J=>funext fun H1=>?_);refine propext ⟨fun h acc ha=>?_,fun h acc ha=>?_⟩
 ·obtain⟨W,h0,hs⟩:=h acc ha;refine⟨W,h0,fun i m ys H2 w=>(hs i m ys H2 w).imp id fun z=>⟨z.1,fun x H3 y=>?_⟩⟩;have:=z.2 x H3 y;rw[e x H3 _ fun qj=>∃m',m'<m/\W (i+1) m' ys qj] at this;exact this
 ·obtain⟨W,h0,hs⟩:=h acc ha;refine⟨W,h0,fun i m ys H2 w=>(hs i m ys H2 w).imp id fun z=>⟨z.1,fun x H3 y=>?_⟩⟩;rw[e x H3 _ fun qj=>∃m',m'<m/\W (i+1) m' ys qj];exact z.2 x H3 y
theorem cP {X:Cx} {elt iter:Expr} {x:Str} {px pos:Pos} {sc:Scope} {wi:TI} {te:TE} {N':List Str} {js:List Nat} (hc:X.calm=true) (hi:PI X (.Name x px) iter wi) (S:qt X N' js sc) (h0:N'[0]?=some x) (nd:N'.Nodup)
  (hx:sc.names.lookup x=some .local) (he:∀fp s H,PE (M5 X N' sc fp s H) elt te) (hs:∀x,foldedSetIterable iter X.env x=pure x:=by intro _; rfl):PE X (.ListComp elt [⟨.Name x px,iter,[],0⟩] sc pos) (ir js wi te):=by
 rw[Fv];exact pJ hc hi S.toG (fun _ _ _=>aF nd h0 (.inl (ik hx)) (.inr (ik hx))) (fun _ _ _=>j4) he hs
theorem Oq {X:Cx} {elt iter:Expr} {x y:Str} {px py pos spos:Pos} {sc:Scope} {wi:TI} {te:TE} {N':List Str} {js:List Nat} {i:Nat} (hN:X.N.Nodup) (hi':X.N[i]?=some y) (hy:Loc X.env.scope y) (hc:X.calm=true) (hi:PI X (.Name x px) iter wi) (S:qt X N' js sc) (h0:N'[0]?=some x) (nd:N'.Nodup)
  (hx:sc.names.lookup x=some .local) (he:∀fp s H,PE (M5 X N' sc fp s H) elt te) (hs:∀x,foldedSetIterable iter X.env x=pure x:=by intro _; rfl) (hw:swapsWith (.ListComp elt [⟨.Name x px,iter,[],0⟩] sc pos) (some (.Name y py)) spos.line X.env=pure true:=by rfl)
  (hf:X.fn y=true\/X.env.scope.names.lookup y=some .local:=by first | exact .inl rfl | exact .inr rfl | assumption) :
  PS X (.Assign [.Name y py] (.ListComp elt [⟨.Name x px,iter,[],0⟩] sc pos) spos) (tW (ir js wi te) (fM i)):=by
 rw[Fv];exact uI hN hi' hy hc hi S.toG (fun _ _ _=>aF nd h0 (.inl (ik hx)) (.inr (ik hx))) (fun _ _ _=>j4) he hs hw hf
theorem sS.of {X:Cx} {nt:Nat} {N':List Str} {js:List Nat} {sc:Scope} (k:sc.kind=.function:=by rfl) (n:(sc.names.all fun y=>y.2 != .cell)=true:=by decide +kernel)
  (l:(sc.names.all fun y=>y.2 != .local || sc.names.lookup y.1==some .local)=true:=by decide +kernel) (al:(sc.names.all fun y=>y.2 != .free || (X.env.cells.lookup y.1).isSome)=true:=by rfl)
  (ln:N'.length=nt+js.length:=by rfl) (cp:(N'.drop nt).map some=js.map (fun j=>X.N[j]?):=by rfl) (ck:((N'.drop nt).all fun y=>X.env.kindOf y==some .cell&&sc.names.lookup y==some .free)=true:=by rfl):sS X nt N' js sc:=by
 have n':∀y∈sc.names,y.2≠.cell:=fun y hy=>by have:=mW.mp n y hy; simpa using this
 refine⟨k,n',lK l,iT al,al,ln,fun i j h=>?_,fun y h=>?_⟩
 ·have:=nR (fun l=>l[i]?) cp;simp only[dw,Ko,h,Option.map_some] at this;cases e:N'[nt+i]? with
  | none=>rw[e] at this; cases this
  | some y=>rw[e] at this; exact Option.some.inj this
 ·have:=mW.mp ck y h;simpa using this
section
variable {prog:Program} {w:World} {A:Around} {E:Value->Shared->Prop} {s:Shared}
theorem _root_.PySem.Heap.ExtBut.trans' {b:Addr} {h h1 h2:Heap} (x:Heap.ExtBut b h h1) (y:∀c o,h1.get? c=some o->h2.get? c=some o):Heap.ExtBut b h h2:=fun c o n e=>y c o (x c o n e)
end
section
variable {X:Cx}
end
structure Vk (z TI TO i1 i2:Addr) (f1 f2:List Addr):Prop where
 a1:TI≠z
 a2:TO≠z
 a3:TI≠TO
 a4:i1≠z
 a5:i2≠z
 a6:TO≠i1
 a7:TO≠i2
 a8:i1≠i2
 b1:z∉f1
 b2:z∉f2
 b3:TO∉f1
 b4:TO∉f2
 b5:i1∉f2
 b6:i2∉f1
section
variable {prog:Program} {w:World} {A:Around} {E:Value->Shared->Prop} {s:Shared}
theorem z_ {b:Addr} {h h':Heap} {f:List Addr} (sb:Heap.SameBut b h h') (hb:b∉f):∀c∈f,∀o,h.get? c=some o->h'.get? c=some o:=fun c hc o e=>sb.extBut c o (fun z=>hb (z▸hc)) e
theorem JB {z TI TO i1 i2:Addr} {f1 f2:List Addr} {n1 n2 k:Nat} {P1 P2:Nat->Value->Prop} {S1 S2:Nat->Heap->Prop} {a b:Value} {Q:Value->Shared->Prop} (Z:Vk z TI TO i1 i2 f1 f2) (D1:Draws prog w A i1 f1 n1 P1 S1) (D2:Draws prog w A i2 f2 n2 P2 S2)
  (hz:IsZip s.heap z TI TO .none) (hi:IsPair s.heap TI (.ref i1) (.ref i2)) (ho:IsPair s.heap TO a b) (s1:S1 k s.heap) (s2:S2 k s.heap) (k1:k<n1) (k2:k<n2)
  (q:∀x y h' tk,P1 k x->P2 k y->IsZip h' z TI TO (rawInt s.heap.objs.size)->IsPair h' TO x y->S1 (k+1) h'->S2 (k+1) h'->IsPair h' s.heap.objs.size x y->h'.objs.size=s.heap.objs.size+1->(∀c o,c≠z->c≠TO->c≠i1->c≠i2->s.heap.get? c=some o->h'.get? c=some o)->Q (.ref s.heap.objs.size) { s with heap:=h',toks:=tk }) :
  wpAny (model prog w) A (Builtin.«zip.__next__» ⟨[.ref z],[]⟩) (fun fin s'=>∃v,fin=.done (.ret v)/\Q v s') E s:=by
 show wpAny _ _ (field (.ref z) 2 >>= _) _ _ _; refine aP (jJ hz rfl (x:=.bool false) rfl ?_);show wpAny _ _ (field (.ref z) 3 >>= _) _ _ _; refine aP (jJ hz rfl (x:=.ref TI) rfl (aP (rO hi rfl ?_)));show wpAny _ _ (Builtin.SmallTypes.ownedTupleIsFree (.ref z) >>= _) _ _ _; unfold Builtin.SmallTypes.ownedTupleIsFree;refine aP (aP (jJ hz rfl (x:=.none) rfl (bW ?_))); simp only[if_true];refine aP (Av (aP (jJ hz rfl (x:=.ref TO) rfl (aP (Dz hz (by simp) fun hA zA sA=>?_)))))
 replace zA:IsZip hA z TI TO .ellipsis:=zA
 refine aP ?_; simp only[List.zipIdx_cons,List.zipIdx_nil,Ay,Bf];refine aP (aP (wpAny_onRaise ?_)); show wpAny _ _ (Builtin.SmallTypes.nextOf (.ref i1) >>= _) _ _ _;refine aP (D1.item k _ _ _ k1 (D1.frame _ _ _ s1 (z_ sA Z.b1)) fun x hB tB pB Yl sB=>bW ?_);have oB:IsPair hB TO a b:=sB.extBut _ _ Z.a6 (sA.extBut _ _ Z.a2 ho);have uB:S2 k hB:=D2.frame _ _ _ (D2.frame _ _ _ s2 (z_ sA Z.b2)) (z_ sB Z.b5);refine aP (rO oB rfl (aP (wpAny_updateSeq_pair oB fun hC oC sC=>?_)))
 replace oC:IsPair hC TO x b:=oC
 refine aP (Dp (bW (aP (aP (wpAny_onRaise ?_))))); show wpAny _ _ (Builtin.SmallTypes.nextOf (.ref i2) >>= _) _ _ _;refine aP (D2.item k _ _ _ k2 (D2.frame _ _ _ uB (z_ sC Z.b4)) fun y hD tD pD std sD=>bW ?_);have oD:IsPair hD TO x b:=sD.extBut _ _ Z.a7 oC;refine aP (rO oD rfl (aP (wpAny_updateSeq_pair oD fun hF oF sF=>?_)))
 replace oF:IsPair hF TO x y:=oF
 refine aP (Dp (bW (bW (aP (rO oF rfl (aP (wpAny_newTuple ?_)))))));have zF:IsZip hF z TI TO .ellipsis:=sF.extBut _ _ Z.a2.symm (sD.extBut _ _ Z.a5.symm (sC.extBut _ _ Z.a2.symm (sB.extBut _ _ Z.a4.symm zA)));have size:hF.objs.size=s.heap.objs.size:=by rw[sF.1,sD.1,sC.1,sB.1,sA.1]
 have lz:z<hF.objs.size:=b8 zF;show wpAny _ _ (Builtin.SmallTypes.ownedTupleHandOut (.ref z) (.ref hF.objs.size) >>= _) _ _ _; unfold Builtin.SmallTypes.ownedTupleHandOut;have zG:IsZip (hF.push { cls:=.type "tuple",data:=.seq #[x,y] }) z TI TO .ellipsis:=e_ _ zF;refine aP (aP (Dz zG (by simp) fun hI zI sI=>?_))
 replace zI:IsZip hI z TI TO (rawInt hF.objs.size):=zI
 refine Dz zI (by simp) fun hJ zJ sJ=>bW ⟨_,rfl,?_⟩
 replace zJ:IsZip hJ z TI TO (rawInt hF.objs.size):=zJ
 have up:∀c o,c≠z->hF.get? c=some o->hJ.get? c=some o:=fun c o n e=>sJ.extBut _ _ n (sI.extBut _ _ n (e_ _ e));have tJ:IsPair hJ hF.objs.size x y:=sJ.extBut _ _ (Aw lz) (sI.extBut _ _ (Aw lz) (dN _ rfl));have szJ:hJ.objs.size=hF.objs.size+1:=by rw[sJ.1,sI.1,gY]
 have kB:∀c o,c≠z->c≠TO->c≠i1->c≠i2->s.heap.get? c=some o->hF.get? c=some o:=fun c o n1 n2 n3 n4 e=>sF.extBut _ _ n2 (sD.extBut _ _ n4 (sC.extBut _ _ n2 (sB.extBut _ _ n3 (sA.extBut _ _ n1 e))));have u1:S1 (k+1) hF:=D1.frame _ _ _ (D1.frame _ _ _ (D1.frame _ _ _ Yl (z_ sC Z.b3)) (z_ sD Z.b6)) (z_ sF Z.b3);have u2:S2 (k+1) hF:=D2.frame _ _ _ std (z_ sF Z.b4);show Q (.ref hF.objs.size) _;rw[size] at zJ tJ szJ ⊢;exact q x y hJ tD pB pD zJ (up _ _ Z.a2 oF) (D1.frame _ _ _ u1 fun c hc o e=>up c o (fun z'=>Z.b1 (z'▸hc)) e) (D2.frame _ _ _ u2 fun c hc o e=>up c o (fun z'=>Z.b2 (z'▸hc)) e) tJ szJ fun c o n1 n2 n3 n4 e=>up c o n1 (kB c o n1 n2 n3 n4 e)
theorem G_ {z TI TO i1 i2:Addr} {f1 f2:List Addr} {n1 n2 k:Nat} {P1 P2:Nat->Value->Prop} {S1 S2:Nat->Heap->Prop} {a b:Value} {Q:Fin->Shared->Prop} (Z:Vk z TI TO i1 i2 f1 f2) (D1:Draws prog w A i1 f1 n1 P1 S1) (D2:Draws prog w A i2 f2 n2 P2 S2)
  (hz:IsZip s.heap z TI TO .none) (hi:IsPair s.heap TI (.ref i1) (.ref i2)) (ho:IsPair s.heap TO a b) (s1:S1 k s.heap) (s2:S2 k s.heap) (kk:k=n1\/(k<n1/\k=n2))
  (q:∀h' e,(∀c o,c≠z->c≠TO->c≠i1->c≠i2->s.heap.get? c=some o->h'.get? c=some o)->(∃o,h'.get? e=some o/\o.cls=.type "StopIteration")->∀tk,E (.ref e) { s with heap:=h',toks:=tk }) :
  wpAny (model prog w) A (Builtin.«zip.__next__» ⟨[.ref z],[]⟩) Q E s:=by
 show wpAny _ _ (field (.ref z) 2 >>= _) _ _ _; refine aP (jJ hz rfl (x:=.bool false) rfl ?_);show wpAny _ _ (field (.ref z) 3 >>= _) _ _ _; refine aP (jJ hz rfl (x:=.ref TI) rfl (aP (rO hi rfl ?_)));show wpAny _ _ (Builtin.SmallTypes.ownedTupleIsFree (.ref z) >>= _) _ _ _; unfold Builtin.SmallTypes.ownedTupleIsFree;refine aP (aP (jJ hz rfl (x:=.none) rfl (bW ?_))); simp only[if_true];refine aP (Av (aP (jJ hz rfl (x:=.ref TO) rfl (aP (Dz hz (by simp) fun hA zA sA=>?_)))))
 replace zA:IsZip hA z TI TO .ellipsis:=zA
 refine aP ?_; simp only[List.zipIdx_cons,List.zipIdx_nil,Ay,Bf];refine aP (aP (wpAny_onRaise ?_)); show wpAny _ _ (Builtin.SmallTypes.nextOf (.ref i1) >>= _) _ _ _;rcases kk with e1 | ⟨k1,e2⟩
 ·have s1':=s1;rw[e1] at s1';refine aP (D1.done _ _ _ (D1.frame _ _ _ s1' (z_ sA Z.b1)) fun hB x sB hx=>?_);obtain⟨ox,gx,cx⟩:=hx;have zB:IsZip hB z TI TO .ellipsis:=sB _ _ Z.a4.symm zA;have nx:x≠z:=fun y=>by subst y; rw[zB] at gx; cases gx; exact absurd (show Value.type "zip" = Value.type "StopIteration" from cx) (by decide)
  refine Dz zB (by simp) fun hC _ sC=>q hC x (fun c o m1 _ m3 _ e=>sC.extBut _ _ m1 (sB _ _ m3 (sA.extBut _ _ m1 e))) ⟨ox,sC.extBut _ _ nx gx,cx⟩ _
 ·refine aP (D1.item k _ _ _ k1 (D1.frame _ _ _ s1 (z_ sA Z.b1)) fun x hB tB pB Yl sB=>bW ?_);have oB:IsPair hB TO a b:=sB.extBut _ _ Z.a6 (sA.extBut _ _ Z.a2 ho);have uB:S2 k hB:=D2.frame _ _ _ (D2.frame _ _ _ s2 (z_ sA Z.b2)) (z_ sB Z.b5);refine aP (rO oB rfl (aP (wpAny_updateSeq_pair oB fun hC oC sC=>?_)));refine aP (Dp (bW (aP (aP (wpAny_onRaise ?_))))); show wpAny _ _ (Builtin.SmallTypes.nextOf (.ref i2) >>= _) _ _ _;have uC:S2 n2 hC:=by rw[<- e2]; exact D2.frame _ _ _ uB (z_ sC Z.b4)
  refine aP (D2.done _ _ _ uC fun hD v sD hx=>?_);obtain⟨ox,gx,cx⟩:=hx;have zD:IsZip hD z TI TO .ellipsis:=sD _ _ Z.a5.symm (sC.extBut _ _ Z.a2.symm (sB.extBut _ _ Z.a4.symm zA));have nx:v≠z:=fun y=>by subst y; rw[zD] at gx; cases gx; exact absurd (show Value.type "zip" = Value.type "StopIteration" from cx) (by decide)
  refine Dz zD (by simp) fun hF _ sF=>q hF v (fun c o m1 m2 m3 m4 e=>sF.extBut _ _ m1 (sD _ _ m4 (sC.extBut _ _ m2 (sB.extBut _ _ m3 (sA.extBut _ _ m1 e))))) ⟨ox,sF.extBut _ _ nx gx,cx⟩ _
theorem Rj {z TI TO i1 i2:Addr} {f1 f2:List Addr} {n1 n2 k:Nat} {P1 P2:Nat->Value->Prop} {S1 S2:Nat->Heap->Prop} {a b:Value} {Q:Option Value->Shared->Prop} (Z:Vk z TI TO i1 i2 f1 f2) (D1:Draws prog w A.in1 i1 f1 n1 P1 S1) (D2:Draws prog w A.in1 i2 f2 n2 P2 S2)
  (hz:IsZip s.heap z TI TO .none) (hi:IsPair s.heap TI (.ref i1) (.ref i2)) (ho:IsPair s.heap TO a b) (s1:S1 k s.heap) (s2:S2 k s.heap) (k1:k<n1) (k2:k<n2)
  (q:∀x y h' tk,P1 k x->P2 k y->IsZip h' z TI TO (rawInt s.heap.objs.size)->IsPair h' TO x y->S1 (k+1) h'->S2 (k+1) h'->IsPair h' s.heap.objs.size x y->h'.objs.size=s.heap.objs.size+1->(∀c o,c≠z->c≠TO->c≠i1->c≠i2->s.heap.get? c=some o->h'.get? c=some o)->Q (some (.ref s.heap.objs.size)) { s with heap:=h',toks:=tk }) :
  wpAny (model prog w) A (pyNext (.ref z)) Q E s:=by
 have ty:s.TypeIs (.ref z) "zip" := ⟨_,hz,rfl⟩;unfold pyNext;refine aP (wpAny_attempt (Hy (name:=Str.ofString "__next__") ty F.slot_zip_next (Ba F.slot_zip_next ty F.entry_zip_next ?_ (F.args_zip_next_1 _))));exact JB Z D1 D2 hz hi ho s1 s2 k1 k2 fun x y h' tk p1 p2 v1 v2 v3 v4 v5 v6 v7=>bW (q x y h' tk p1 p2 v1 v2 v3 v4 v5 v6 v7)
theorem Nf {z TI TO i1 i2:Addr} {f1 f2:List Addr} {n1 n2 k:Nat} {P1 P2:Nat->Value->Prop} {S1 S2:Nat->Heap->Prop} {a b:Value} {Q:Option Value->Shared->Prop} (Z:Vk z TI TO i1 i2 f1 f2) (D1:Draws prog w A.in1 i1 f1 n1 P1 S1) (D2:Draws prog w A.in1 i2 f2 n2 P2 S2)
  (hz:IsZip s.heap z TI TO .none) (hi:IsPair s.heap TI (.ref i1) (.ref i2)) (ho:IsPair s.heap TO a b) (s1:S1 k s.heap) (s2:S2 k s.heap) (kk:k=n1\/(k<n1/\k=n2))
  (q:∀h' tk,(∀c o,c≠z->c≠TO->c≠i1->c≠i2->s.heap.get? c=some o->h'.get? c=some o)->Q none { s with heap:=h',toks:=tk }):wpAny (model prog w) A (pyNext (.ref z)) Q E s:=by
 have ty:s.TypeIs (.ref z) "zip" := ⟨_,hz,rfl⟩;unfold pyNext;refine aP (wpAny_attempt (Hy (name:=Str.ofString "__next__") ty F.slot_zip_next (Ba F.slot_zip_next ty F.entry_zip_next ?_ (F.args_zip_next_1 _))));refine G_ Z D1 D2 hz hi ho s1 s2 kk fun h' e k hx tk=>?_;obtain⟨o,g,c⟩:=hx;exact aP (wpAny_isInstance (T:="StopIteration") (b:=true) ⟨o,g,c⟩ isSubtype_stop (bW (q _ tk k)))
end
theorem Inv.sU {X:Cx} {pins:List (Addr×Obj)} {σ:St} {H:Hp} {s:Shared} {h':Heap} {t':Nat} {fp:List Addr} (I:Inv X pins σ H s) (k:∀b o,b∉fp->s.heap.get? b=some o->h'.get? b=some o) (hf:∀b∈fp,fK X pins H b) :
  Inv X pins σ H { s with heap:=h',toks:=t' }:=by
 have ni:∀b u,H b=some u->b∉fp:=fun b u q hb=>by rw[(hf b hb).1] at q; cases q
 refine I.step (g':=s.gens) (d':=s.drawn) (ch:=fp) (fun b hb=>?_) (fun b o _ _ hc q _=>k b o hc q) (fun b o _ _ hc q _=>⟨o.slots,k b o hc q⟩) (fun _ _ _ _ n=>n) (fun b o hc q=>⟨o,k b o hc q⟩) (fun _ _ q=>q) (fun _ _ _ q=>q)
  (fun b ps q=>⟨#[],by rw[q]; simp⟩) (fun m hm=>?_) (fun b u q=>?_) I.bare
 ·obtain⟨_,f1,_,f3,f4,f5⟩:=hf b hb;exact⟨f3,(hf b hb).2.1,f4,f5⟩
 ·obtain⟨o,es,ep,ho,r⟩:=hm;exact⟨o,es,ep,k _ o (fun hb=>(hf _ hb).2.1 rfl) ho,r⟩
 ·refine(I.hok b u q).stay (fun c v hc z=>k c v ?_ z) (fun _ z=>z) fun _ _ z=>z;rcases hc with z | z
  ·rw[z]; exact ni b u q
  ·exact ni c _ z
structure Knd where
 Sq:PySem.W.Frag->Hp->Addr->List V->Prop
 It:Heap->Addr->Addr->Nat->Prop
 Pl:Heap->Addr->Array Value->Prop
 obj:∀{h:Heap} {i a:Addr} {n:Nat},It h i a n->∃o,h.get? i=some o/\∀v,o.data≠.cell v
 keep:∀{h h':Heap} {i a:Addr} {n:Nat},It h i a n->(∀o,h.get? i=some o->h'.get? i=some o)->It h' i a n
 inv:∀{X:Cx} {pins:List (Addr×Obj)} {σ:St} {H:Hp} {s:Shared} {a:Addr} {xs:List V},Inv X pins σ H s->Sq X.K H a xs->∃us:List Value,Vals xs us/\Pl s.heap a us.toArray
 inj:∀{X:Cx} {pins:List (Addr×Obj)} {σ:St} {H:Hp} {s:Shared} {a:Addr} {xs ys:List V},Inv X pins σ H s->Sq X.K H a xs->Sq X.K H a ys->xs=ys
 ne:∀{X:Cx} {pins:List (Addr×Obj)} {σ:St} {H:Hp} {s:Shared} {a b:Addr} {xs:List V},Inv X pins σ H s->Sq X.K H a xs->fK X pins H b->a≠b
 dr:∀{prog:Program} {w:World} {A:Around},A.handled=none->∀{i a:Addr},a≠i->∀us:Array Value,Draws prog w A i [i,a] us.size (fun n v=>us[n]?=some v) (fun n h=>It h i a n/\Pl h a us)
structure agb (k1 k2:Knd) (z TI TO i1 i2 a b:Addr) (i:Nat) (h:Heap):Prop where
 z:IsZip h z TI TO .none
 p:IsPair h TI (.ref i1) (.ref i2)
 o:∃x y,IsPair h TO x y
 l:k1.It h i1 a i
 r:k2.It h i2 b i
section
variable {X:Cx}
end
abbrev two (elt t1 i1 t2 i2:Expr) (sc:Scope) (pos:Pos):Expr:=.ListComp elt [⟨t1,i1,[],0⟩,⟨t2,i2,[],0⟩] sc pos
section
variable {prog:Program} {w:World} {A:Around} {R:Result->Shared->Prop} {s:Shared} {elt t1 i1 t2 i2:Expr} {sc:Scope} {pos:Pos} {it acc:Value} {env:Env}
end
theorem bT {X:Cx} {K:PySem.W.Frag} {pos:Pos} {es:List Expr} {k:Nat} {t:MF} {n:Nat} (hK:X.K=K) (hc:X.calm=true) (h:Uv X es t)
  (hn:(assignEach es X.env).length=n:=by rfl) (hst:(assignEach es X.env).findIdx? (·.1)=none:=by rfl):PG X (.Tuple es k pos) (TF K n t):=by
 subst hK;exact R9 hc h hn hst
theorem yE {X:Cx} {K:PySem.W.Frag} {tg l:Expr} {tl:TE} (hK:X.K=K) (hl:PE X l tl):PI X tg l (IK K tl):=by
 subst hK;exact R6 hl
theorem bH {X:Cx} {K:PySem.W.Frag} {tg l:Expr} {tl:TE} (hK:X.K=K) (hl:PE X l tl):PI X tg l (pO K tl):=by
 subst hK;exact Ow hl
section
variable {X:Cx} {pins:List (Addr×Obj)} {σ:St} {H:Hp} {s:Shared} {A:Around} {E:Value->Shared->Prop} {Q:Value->Shared->Prop} {b:Bool}
end
section
variable {X:Cx}
end
section
variable {X:Cx}
def tNo:TS:=fun _ _ _=>False
theorem uH {st:Stmt}:PS X st tNo:=.mk <| fun _ _ _ _ _ _ h=>h.elim
end
def aaG:V->Option Str
 | .int i=>if i.natAbs.log2<1920 then some (Str.ofString (toString i)) else none
 | .str z=>some z
 | _=>none
def tFv (te:TE):TE:=fun σ H Q=>te σ H fun x H1=>∃z,aaG x=some z/\z.length<=sizeLine/\Q (.str z) H1
abbrev TJ:=Str->St->Hp->(Str->Hp->Prop)->Prop
section
variable {X:Cx}
structure PJ (X:Cx) (es:List Expr) (t:TJ):Prop where
 mk ::
 go:∀(acc:Str) (pins:List (Addr×Obj)) (s:Shared) (σ:St) (H:Hp) (R:Str->Hp->Prop),Inv X pins σ H s->t acc σ H R ->
  Joins (model X.prog X.w) X.A X.xe (evalEach es X.env) acc (fun out s'=>∃H',Inv X pins σ H' s'/\R out H') s
def tJ0:TJ:=fun acc _ H R=>R acc H
def tJ1 (te:TE) (t:TJ):TJ:=fun acc σ H R=>te σ H fun x H1=>∃y,x=.str y/\(acc++y).length<=sizeLine/\t (acc++y) σ H1 R
def tJs (t:TJ):TE:=fun σ H Q=>t Str.empty σ H fun out H'=>out.length<=sizeLine/\Q (.str out) H'
def Z7:V->Option Int->Option Int->Hp->VK->Prop:=fun x lo hi H Q=>∃z,x=.str z/\z.length<=sizeLine/\Q (.str (Txt.slice z lo hi)) H
theorem J9:Us X Z7:=by
 refine .mk ?_;intro pins s σ H x v vl vu lo hi sl Q I rx hs pl pu h;obtain⟨z,rfl,hz,q⟩:=h;obtain⟨t,rfl⟩:=rx;have key:∀t' k,EP X pins σ Q (.str (Txt.slice z lo hi) t') { s with toks:=k }:=fun t' k=>⟨.str _,H,I.tok _,⟨t',rfl⟩,q⟩
 refine⟨"str",_,PySem.F.slot_str_getitem.lookup,typeIs_str _ _ _,?_⟩;cases pl with
 | none=>
  cases pu with
  | none=>exact Ol (l:=none) (u:=none) (st:=none) hs rfl (post_val_or_str ⟨kj (Txt.slice_le z _ _) hz,key⟩)
  | int j uj=>exact Ol (l:=none) (u:=some (j,uj)) (st:=none) hs rfl (post_val_or_str ⟨kj (Txt.slice_le z _ _) hz,key⟩)
 | int i ui=>
  cases pu with
  | none=>exact Ol (l:=some (i,ui)) (u:=none) (st:=none) hs rfl (post_val_or_str ⟨kj (Txt.slice_le z _ _) hz,key⟩)
  | int j uj=>exact Ol (l:=some (i,ui)) (u:=some (j,uj)) (st:=none) hs rfl (post_val_or_str ⟨kj (Txt.slice_le z _ _) hz,key⟩)
theorem tZ:∀{zs:List Str} {us:List Value},Vals (zs.map V.str) us->StrsAre us zs
 | [],_,.nil=>.nil
 | z::zs,_,.cons ⟨t,e⟩ r=>by subst e; exact .cons z t (tZ r)
theorem Np (sep:Str) (zs:List Str):Txt.join sep zs=Str.join sep zs:=by
 match zs with
 | []=>exact(StrLaws.glued_eq_join sep [])
 | [x]=>rfl
 | x::y::r=>exact StrLaws.glued_eq_join sep (x::y::r)
def rJoin:V->List V->Hp->VK->Prop:=fun x xs H Q=>∃(sep:Str) (p:Addr) (zs:List Str),x=.str sep/\xs=[.ref p]/\H p=some (.lst (zs.map V.str))/\(zs.map (·.length)).sum+zs.length*sep.length<=16777216/\Q (.str (Str.join sep zs)) H
theorem Gm:Zf X "str.join" rJoin:=by
 intro pins s σ H x xs v us Q I rx rs h;obtain⟨sep,p,zs,rfl,rfl,hp,hz,q⟩:=h;obtain⟨t,rfl⟩:=rx;obtain⟨u,rfl,ru⟩:=rs.one;cases ru;obtain⟨_,its,n,rv,e1⟩:=(show cN X.prog X.w H s.heap p (.lst (zs.map V.str)) from I.hok p _ hp);refine join_list (D:=p) (items:=its.toArray) ⟨_,e1,rfl,n,rfl⟩ (by simpa using tZ rv) hz fun t' k=>⟨.str _,H,I.tok _,⟨t',rfl⟩,?_⟩
 rw[Np];exact q
def Its (z:Str):It:=⟨fun i _=>i<z.length,fun i H x H'=>H'=H/\∃c,z.cps[i]?=some c/\x=.str ⟨#[c]⟩,fun i _=>z.length<=i⟩
theorem JN {P:Program} {w:World} {K:PySem.W.Frag} {tg:Expr} (z:Str) (t:Tok) (it:Addr):Turn P w K tg (Its z) [it] it (fun i h=>h.IsStrIter it "str_ascii_iterator" z t i) where
 mem:=by simp
 obj:=fun i h st b hb=>by
  have e:b=it:=by simpa using hb
  subst e;obtain⟨o,e,c,d⟩:=st;exact⟨o,e,fun v z=>by rw[d] at z; cases z⟩
 keep:=fun i h h' st k=>by
  obtain⟨o,e,c,d⟩:=st;exact⟨o,k it (by simp) o e,c,d⟩
 item:=by
  intro X hP hw hK hc i pins s σ H E I hf st hg;subst hP hw hK;have hx:z.cps[i]?=some (z.cps[i]'hg):=Array.getElem?_eq_getElem hg;obtain⟨f0,f1,f2,f3,f4,f5⟩:=hf it (by simp)
  refine wpAny_pyNext_ascii_item st hx fun h' st' sb=>?_;have I1:Inv X pins σ H { s with heap:=h',toks:=s.toks+1 }:=I.turned (fun b o hb e=>(sb.2 b hb).trans e) f0 f1 f3 f4 f5
  obtain⟨o,e,c,d⟩:=id st';exact⟨_,rfl,xr (s:={ s with heap:=h',toks:=s.toks+1 }) e c d (by decide) ⟨.str _,H,I1,⟨_,rfl⟩,⟨rfl,_,hx,rfl⟩,st',fun b hb=>(hf b hb).1⟩⟩
 done:=by
  intro X hP hw hK hc i pins s σ H E I hf st hg;subst hP hw hK;obtain⟨f0,f1,f2,f3,f4,f5⟩:=hf it (by simp)
  exact wpAny_pyNext_ascii_end (I.ok.hd hc) st (Array.getElem?_eq_none hg) fun h' eb=>⟨rfl,I.turned (t':=s.toks) (fun b o hb e=>eb b o hb e) f0 f1 f3 f4 f5⟩
 self:=fun _ _ _ _ _ st h=>wpAny_pyIter_striter_ascii st h
def Xe (tl:TE):TI:=fun σ H R=>tl σ H fun x H1=>∃z,x=.str z/\z.cps.all (· < 128)=true/\R (Its z) H1
theorem R7 {tg l:Expr} {tl:TE} (hl:PE X l tl):PI X tg l (Xe tl):=by
 refine .mk ?_;intro pins s σ H R I h;refine cz (hl pins s σ H _ I h) fun v s1 qx=>?_;obtain⟨x,H1,I1,r1,q1⟩:=qx;obtain⟨z,e,ha,q⟩:=q1;subst e;obtain⟨t,rfl⟩:=r1;refine wpAny_pyIter_ascii ha ?_;refine⟨s1.heap.objs.size,[s1.heap.objs.size],_,_,H1,rfl,I1.kept (t':=s1.toks) fun b o e=>e_ _ e,JN z t _,⟨_,dN _ rfl,rfl,rfl⟩,fun b hb=>?_,q⟩;have e:b=s1.heap.objs.size:=by simpa using hb
 subst e;exact I1.vg (bG _) (I1.hok.fresh (bG _))
def ZG (K:PySem.W.Frag) (ta:TE):TT:=fun σ H Q=>ta σ H fun x H'=>∃k,abf K x H' k/\Q k H'
end
def tx (l:List Nat):Str:=⟨l.toArray⟩
theorem xX (l:List Nat):(tx l).cps.toList=l:=by simp[tx]
theorem d7 (l:List Nat):(tx l).length=l.length:=by show l.toArray.size=_; simp
theorem VM {z:Str} {l:List Nat} (h:z.cps.toList=l):z=tx l:=by subst h; cases z; simp[tx]
theorem tO (a b:List Nat):tx a++tx b=tx (a++b):=VM (by rw[PySem.W.KT.app_list,xX,xX])
theorem Rt (c:Nat):(⟨#[c]⟩:Str)=tx [c]:=rfl
def jn (sep:List Nat):List (List Nat)->List Nat
 | []=>[]
 | [x]=>x
 | x::y::r=>x++sep++jn sep (y::r)
theorem Gq (sep:List Nat):∀ls:List (List Nat),Str.join (tx sep) (ls.map tx)=tx (jn sep ls)
 | []=>rfl
 | [x]=>rfl
 | x::y::r=>by
  show tx x++tx sep++Str.join (tx sep) ((y::r).map tx)=_;rw[Gq sep (y::r),tO,tO];rfl
theorem Ug {js:List Nat} {l:List Nat} {f:Nat->Bool} {tl te:TE} {σ:St} {H:Hp} {Q:VK} (hl:∀R:VK,R (.str (tx l)) H->tl σ H R) (ha:∀c∈l,c<128) (hz:l.length<=sizeLine)
  (step:∀c H',aL H H'->∀R:VK,(∀qj,aL H' qj->R (.bl (f c)) qj)->te (some (.str (tx [c]))::cH js σ) H' R)
  (fin:∀acc H',aL H H'->H' acc=some (.lst ((l.map f).map V.bl))->Q (.ref acc) H'):ir js (Xe tl) te σ H Q:=by
 refine hl _ ⟨tx l,rfl,?_,fun acc hacc=>?_⟩
 ·show l.toArray.all (· < 128)=true;simpa using ha
 have len:(tx l).length=l.length:=d7 l;refine⟨fun i m ys H2=>m=l.length-i/\i<=l.length/\ys=((l.take i).map f).map V.bl/\aL H H2/\H2 acc=some (.lst ys),⟨_,rfl,iY _,rfl,aN hacc _,aA⟩,?_⟩;rintro i m ys H2 ⟨rfl,hi,rfl,sm,hy⟩;by_cases hlt:i<l.length
 ·refine .inr ⟨show i<(tx l).length by omega,fun x H3 y=>?_⟩
  obtain⟨e,c,hc,ex⟩:=y;subst e ex;have hc':l[i]?=some c:=by simpa[tx] using hc
  refine step c _ sm _ fun H4 s4=>⟨s4 _ _ hy,?_,l.length-(i+1),by omega,rfl,hlt,?_,?_,aA⟩
  ·rw[cT,cT,lH]; omega
  ·rw[List.take_succ,hc']; simp
  ·refine fun b o q=>?_;have nb:b≠acc:=cC q hacc;rw[aJ nb];exact s4 _ _ (sm _ _ q)
 ·have e:i=l.length:=by omega
  subst e;refine .inl ⟨show(tx l).length<=l.length by omega,fin _ _ sm ?_⟩
  rw[hy,nY]
abbrev U9 (h:Heap) (t:Addr):Heap:=h.push { cls:=.type "list_iterator",data:=.fields #[.ref t,.int 0 0] }
abbrev X_ (h:Heap) (t1 t2:Addr):Heap:=U9 (U9 h t1) t2
abbrev X8 (h:Heap) (t1 t2:Addr):Heap:=(X_ h t1 t2).push { cls:=.type "tuple",data:=.seq #[.ref h.objs.size,.ref (U9 h t1).objs.size] }
abbrev X7 (h:Heap) (t1 t2:Addr):Heap:=(X8 h t1 t2).push { cls:=.type "tuple",data:=.seq #[.none,.none] }
abbrev Ro (h:Heap) (t1 t2:Addr):Heap:=(X7 h t1 t2).push { cls:=.type "zip",data:=.fields #[.none,.bool false,.bool false,.ref (X_ h t1 t2).objs.size,.ref (X8 h t1 t2).objs.size] }
theorem Pj (t1 t2:Addr) (xs ys:Array Value):Meets (Builtin.«zip.__new__» ⟨[.type "zip",.ref t1,.ref t2],[]⟩) (fun _ R s=>s.heap.IsList t1 xs/\s.heap.IsList t2 ys/\R (.ok (.ret (.ref (X7 s.heap t1 t2).objs.size))) { s with heap:=Ro s.heap t1 t2 }):=
 .of_wp fun prog w A R s z=>by
  obtain⟨hp,g,d,tk,os⟩:=s;obtain⟨hx,hy,z⟩:=z;have sub:=sub_zip;have hX:Heap.IsList (Shared.heap ⟨hp,g,d,tk,os⟩) t1 xs:=hx;have hY:Heap.IsList (Shared.heap ⟨U9 hp t1,g,d,tk,os⟩) t2 ys:=hy.push _
  wp_walk using Dv hX,Dv hY
  exact⟨_,rfl,z⟩
theorem Jh {prog:Program} {w:World} {A:Around} {E:Value->Shared->Prop} {s:Shared} {t1 t2:Addr} {xs ys:Array Value} {Q:Value->Shared->Prop} (hx:s.heap.IsList t1 xs) (hy:s.heap.IsList t2 ys)
  (q:∀h',IsZip h' (s.heap.objs.size+4) (s.heap.objs.size+2) (s.heap.objs.size+3) .none->IsPair h' (s.heap.objs.size+2) (.ref s.heap.objs.size) (.ref (s.heap.objs.size+1))->IsPair h' (s.heap.objs.size+3) .none .none ->
   h'.IsListIter s.heap.objs.size t1 0->h'.IsListIter (s.heap.objs.size+1) t2 0->(∀c o,s.heap.get? c=some o->h'.get? c=some o)->Q (.ref (s.heap.objs.size+4)) { s with heap:=h' }) :
  wpAny (model prog w) A (call (.type "zip") [.ref t1,.ref t2]) Q E s:=by
 have n1:(U9 s.heap t1).objs.size=s.heap.objs.size+1:=gY ..;have n2:(X_ s.heap t1 t2).objs.size=s.heap.objs.size+2:=by rw[gY,n1]
 have n3:(X8 s.heap t1 t2).objs.size=s.heap.objs.size+3:=by rw[gY,n2]
 have n4:(X7 s.heap t1 t2).objs.size=s.heap.objs.size+4:=by rw[gY,n3]
 have up:∀c o,s.heap.get? c=some o->(Ro s.heap t1 t2).get? c=some o:=fun c o e=>e_ _ (e_ _ (e_ _ (e_ _ (e_ _ e))));have v5:(Ro s.heap t1 t2).get? (X7 s.heap t1 t2).objs.size=some _:=dN _ rfl;have v4:(Ro s.heap t1 t2).get? (X8 s.heap t1 t2).objs.size=some _:=e_ _ (dN _ rfl);have v3:(Ro s.heap t1 t2).get? (X_ s.heap t1 t2).objs.size=some _:=e_ _ (e_ _ (dN _ rfl));have v2:(Ro s.heap t1 t2).get? (U9 s.heap t1).objs.size=some _:=e_ _ (e_ _ (e_ _ (dN _ rfl)));have v1:(Ro s.heap t1 t2).get? s.heap.objs.size=some _:=e_ _ (e_ _ (e_ _ (e_ _ (dN _ rfl))));refine callType_new F.called_zip (by decide) (F.typeCall_zip_2 _ _) (F.newCall_zip_2 _ _) (fun x=>F.args_object_init_3 x _ _) F.entry_zip_new (Pj t1 t2 xs ys) ⟨hx,hy,?_⟩
 show _/\_;rw[n2,n3,n4] at v5;rw[n1,n2] at v3;rw[n3] at v4;rw[n1] at v2;rw[n4];exact⟨⟨_,v5,rfl⟩,q _ v5 v3 v4 ⟨_,v1,rfl,rfl⟩ ⟨_,v2,rfl,rfl⟩ up⟩
theorem RJ {X:Cx} {pins:List (Addr×Obj)} {σ:St} {H:Hp} {s:Shared} {a b:Addr} {xs:List V} (I:Inv X pins σ H s) (hq:cV X.K H a xs) (hf:fK X pins H b):a≠b:=fun z=>by
 rcases hq with h | ⟨o,its,n,hk,_⟩
 ·rcases h with h | ⟨o,h⟩ <;> (rw[z,hf.1] at h; cases h)
 ·have e:X.base.get? a=some o:=I.ok.mod.Te a o hk;rcases hf.2.2.2.1 with y | y
  ·exact I.ok.Ii a o e (z▸y)
  ·have l:=b8 e;have m:=I.ok.My;rw[z] at l;exact absurd (mX l (kj m y)) (rN _)
def kL:Knd:=⟨fun K=>cV K,fun h i a n=>h.IsListIter i a n,fun h a us=>h.IsList a us,fun⟨o,g,_,d⟩=>⟨o,g,fun v q=>by rw[d] at q; cases q⟩,fun g k=>g.at k,fun I h=>(I.list h).elim fun us p=>⟨us,p.1,p.2.1.isList⟩,fun I h h'=>I.uZ h h',fun I h f=>RJ I h f,fun hh i a n us=>Draws.list hh i a n us⟩
section
variable {X:Cx}
end
end L2
namespace L2
open PySem
structure Pl (n:Nat) (d:PyData):Prop where
 hd:d.hasDict=false
 cl:d.canLay0=true
 dp:d.depth<=n
end L2
namespace L2
open PySem PySem.Spec PyProof.Rows
def UJ (h:Heap) (e:Addr) (cls:Value) (T:Addr):Prop:=∃oe vs,h.get? e=some oe/\(oe.cls=cls/\oe.dict=none)/\oe.data=.fields vs/\vs[1]?=some (.ref T)/\vs[2]?=some .none
def Uq (h:Heap) (T:Addr):Prop:=∃oT ts,h.get? T=some oT/\oT.data=.fields ts/\ts[3]?=some .none
structure adh (fs:List Addr) (h h':Heap) (e T:Addr) (cls:Value):Prop where
 keep:∀b o,b≠e->b∉fs->h.get? b=some o->h'.get? b=some o
 slot:∀b o,b≠e->h.get? b=some o->∃sl,h'.get? b=some { o with slots:=sl }
 fresh:h.objs.size<=T
 ex:UJ h' e cls T
 tb:Uq h' T
section
variable {M:Model} {A:Around} {E:Value->Shared->Prop} {s:Shared}
structure abj (fs:List Addr) (h h':Heap) (e T0 T:Addr) (cls:Value):Prop where
 keep:∀b o,b≠e->b≠T0->b∉fs->h.get? b=some o->h'.get? b=some o
 slot:∀b o,b≠e->b≠T0->h.get? b=some o->∃sl,h'.get? b=some { o with slots:=sl }
 old:∃o,h'.get? T0=some o
 fresh:h.objs.size<=T
 ex:UJ h' e cls T
 tb:Uq h' T
end
section
variable {P:Program} {w:World} {H H':Hp} {h h':Heap} {a:Addr} {o:HO}
def ExO (e:Addr) (cls:Value) (T:Addr):HO:=.ext fun h=>UJ h e cls T
def TbO (T:Addr):HO:=.ext fun h=>Uq h T
end
def MN (P:Program) (w:World):G8:=fun outer H s E e s'=>∃(a T:Addr) (cls:Value) (H':Hp),e=.ref a/\s'.os=s.os/\AllBare s'.gens/\Un (frs outer) [] H H' s.heap s'.heap/\mq P w H' s'.heap /\
 H' a=some (ExO a cls T)/\H' T=some (TbO T)/\T≠a/\(s.heap.get? a=none/\s.heap.get? T=none)/\E cls none H'
section
variable {P:Program} {w:World} {K:PySem.W.Frag} {mg:Str->Option Value} {base:Heap} {N:List Str} {qual:Str} {scope:Scope} {f:Addr} {cd:Value} {A:Around} {outer:List Env} {s0:Shared} {H0:Hp} {E:XK}
end
def Zv:List Value:=[.type "ValueError",.type "Exception",.type "BaseException",.type "object"]
structure ExC (K:PySem.W.Frag) (mg:Str->Option Value) (x:Str) (C:Addr):Prop where
 bound:mg x=some (.ref C)
 ok:PySem.W.excIn K C Zv "ValueError.__new__" = true
def Rx (E:XK) (C:Addr) (ta:TA):TS:=fun _ σ H=>ta σ H fun vs H1=>vs.length<=sizeLine/\∀H',aL H1 H'->E (.ref C) none H'
section
variable {P:Program} {w:World} {K:PySem.W.Frag} {mg:Str->Option Value} {base:Heap} {N:List Str} {qual:Str} {scope:Scope} {f:Addr} {cd:Value} {A:Around} {outer:List Env} {s0:Shared} {H0:Hp} {E:XK}
end
section
variable {X:Cx} {pins:List (Addr×Obj)} {σ:St} {H:Hp} {s:Shared}
end
section
variable {X:Cx} {pins:List (Addr×Obj)} {σ:St} {H:Hp} {s:Shared}
end
section
variable {X:Cx} {pins:List (Addr×Obj)} {σ:St} {H1:Hp} {s1 s':Shared}
end
section
variable {P:Program} {w:World} {K:PySem.W.Frag} {mg:Str->Option Value} {base:Heap}
theorem T4 {CX:G8} {k:Nat} {f:Addr} {name qual:Str} {params:Arguments} {body:List Stmt} {scope:Scope} {dV kV doc pm cdv ct oc:Value} {an od:Option Addr}
  {osl:Array (Option Value)} {N ps:List Str} {sp:Sp} (lk:K.lookup f=some ⟨oc,od,.func (PySem.W.fnOf name qual params body scope dV kV doc pm an cdv ct),osl⟩) (hcd:PySem.W.codeIn K cdv qual=true) (S:aR N ps scope)
  (len:∀vs H Q E,sp vs H Q E->vs.length=ps.length)
  (hbody:∀(A:Around) (outer:List Env) (s:Shared) (H:Hp) (vs:List V) (Q:VK) (E:XK),mq P w H s.heap->dZ k (A.deeper (envOfC qual scope s.heap.objs.size f cdv))->sp vs H Q E ->
   ∃t,Cq (vo CX P w K mg base N qual scope f cdv A outer s H E) body t/\t { nx:=fun _ H'=>Q .non H',rt:=Q } (start N vs) H) :
  bD P w K mg base CX (k+1) f (PySem.W.fnOf name qual params body scope dV kV doc pm an cdv ct) ps sp:=by
 refine⟨len,fun A outer s H args us vs Q E hr e0 hb r hsp=>?_⟩;have hl:=len _ _ _ _ hsp;have KX:K.In s.heap:=e0.mod.Te.keeps fun b o e=>(e0.bs b o e).1;have lim:s.heap.NoLimit:=e0.mod.nolimit.keeps fun b o e=>(e0.bs b o e).1
 have hkind:∀y∈ps.zip us,scope.names.lookup y.1=some .local\/(scope.names.lookup y.1=some .cell/\((cellsFrom (s.heap.objs.size+1) scope.names []).lookup y.1).isSome=true):=fun⟨n,v⟩ hy=>by
  rcases S.par n (Bj hy).1 with q | q
  ·exact .inl q
  ·exact .inr ⟨q,PySem.W.cellsFrom_some _ _ _ (.inl q)⟩
 refine codeAny_call_function hr.depth (KX _ _ lk) rfl S.co S.gen rfl (PySem.W.codeRec_of KX hcd) (hb _ _ _ _ ?_);refine wpAny_newFunctionEnv_cells S.kind hkind fun env he s1 x=>?_;subst he;refine⟨lim.keeps x.toInCall.keep,codeAny_func ?_⟩;obtain⟨t,ht,hq⟩:=hbody A outer s H vs Q E e0.hok (hr.deeper _) hsp;have I:Inv (vo CX P w K mg base N qual scope f cdv A outer s H E) [] (start N vs) H s1:=xm S hr.hd e0 hl r x;refine mU (ht [] s1 (start N vs) H _ I hq) (fun fl s' hs=>?_) fun e s' hs=>hs
 have fin:∀{σ':St} {H':Hp} {v:V} {u:Value},Inv (vo CX P w K mg base N qual scope f cdv A outer s H E) [] σ' H' s'->RelV v u->Q v H'->CE outer P w H s Q u s':=
  fun {σ' H' v u} J rv q=>⟨v,H',J.os,J.bare,J.base,J.hok,rv,q⟩
 cases fl with
 | ret u=>
  obtain⟨v,σ',H',J,rv,q⟩:=hs;exact fin J rv q
 | next=>
  obtain⟨σ',H',J,q⟩:=hs;exact fin (v:=V.non) (u:=Value.none) J rfl q
 | brk=>
  obtain⟨_,_,_,q⟩:=hs;exact False.elim q
 | cont=>
  obtain⟨_,_,_,q⟩:=hs;exact False.elim q
structure CtE (P:Program) (w:World) (K:PySem.W.Frag) (mg:Str->Option Value) (base:Heap) (k:Nat) (x:Str) (ps:List Str) (sp:Sp) where
 f:Addr
 fd:FuncData
 G:bD P w K mg base (MN P w) k f fd ps sp
 kp:PySem.W.keepIn K (.ref f)=true
 b:Binds K fd ps []
 m:mg x=some (.ref f)
end
section
variable {prog:Program} {w:World} {A:Around} {E:Value->Shared->Prop} {s:Shared} {K:PySem.W.Frag} {x D:Addr} {ox:Obj} {od:Option Obj}
structure ExK (K:PySem.W.Frag) (D:Addr):Prop where
 ga:PySem.W.findIn K (.ref D) "__getattribute__" = some (some (.builtin "BaseException.__getattribute__"))
 gt:PySem.W.findIn K (.ref D) "__getattr__" = some none
 fo:PySem.W.findObj K D none "__class__" = some (.bind (.builtin "getset_descriptor.__get__") (.builtin "object.__class__"))
 sb:PySem.W.subIn K (.ref D) (.type "BaseException")=some true
 ob:PySem.W.mroIn K D (.type "object")=some true
end
section
variable {X:Cx}
end
noncomputable instance YT:DecidableEq PyData:=fun a b=>Classical.propDecidable (a=b)
mutual
def ndK:PyData->Bool
 | .int _=>true
 | .tuple ds=>W0 ds
 | _=>false
def W0:List PyData->Bool
 | []=>true
 | d::ds=>ndK d&&W0 ds
end
structure X4 (d:PyData):Prop where
 t:∃ds,d=.tuple ds
 k:ndK d=true
 dp:d.depth<=8
section
variable {X:Cx} {pins:List (Addr×Obj)} {σ:St} {H:Hp} {s:Shared} {a:Addr} {kvs:List (PyData×V)}
def X5 (H:Hp) (d:PyData) (y:V):Prop:=X4 d/\At H d y
end
section
variable {X:Cx}
end
section
variable {P:Program} {w:World} {K:PySem.W.Frag} {mg:Str->Option Value} {base:Heap} {N:List Str} {qual:Str} {scope:Scope} {f:Addr} {cd:Value} {A:Around} {outer:List Env} {s0:Shared} {H0:Hp} {E:XK}
def RC (sp:Sp) (su:List V) (E:XK) (t:TA):TE:=fun σ H Q=>t σ H fun vs H1=>sp (vs++su) H1 Q (fun cls _ H2=>∀H3,(aL H1 H2->aL H1 H3)->E cls none H3)
end
abbrev TX:=St->Hp->VK->(Value->Hp->Hp->Prop)->Prop
abbrev Qo:=Ends->(Value->St->Hp->Hp->Prop)->St->Hp->Prop
def XL (X:Cx) (pins:List (Addr×Obj)) (σ:St) (EE:Value->Hp->Hp->Prop):Value->Shared->Prop:=fun e s'=>∃H1 s1 E',Inv X pins σ H1 s1/\MN X.prog X.w X.stack H1 s1 E' e s'/\∀cls H2,E' cls none H2->EE cls H1 H2
def XLs (X:Cx) (pins:List (Addr×Obj)) (EE:Value->St->Hp->Hp->Prop):Value->Shared->Prop:=fun e s'=>∃σ1 H1 s1 E',Inv X pins σ1 H1 s1/\MN X.prog X.w X.stack H1 s1 E' e s'/\∀cls H2,E' cls none H2->EE cls σ1 H1 H2
structure PX (X:Cx) (e:Expr) (t:TX):Prop where
 mk ::
 go:∀(pins:List (Addr×Obj)) (s:Shared) (σ:St) (H:Hp) (Q:VK) (EE:Value->Hp->Hp->Prop),Inv X pins σ H s->t σ H Q EE->wpAny (model X.prog X.w) X.A (eval e X.env) (EP X pins σ Q) (XL X pins σ EE) s
structure PSX (X:Cx) (st:Stmt) (t:Qo):Prop where
 mk ::
 go:∀(pins:List (Addr×Obj)) (s:Shared) (σ:St) (H:Hp) (D:Ends) (EE:Value->St->Hp->Hp->Prop),Inv X pins σ H s->t D EE σ H->wpAny (model X.prog X.w) X.A (exec st X.env) (SP X pins D) (XLs X pins EE) s
structure agf (X:Cx) (st:List Stmt) (t:Qo):Prop where
 mk ::
 go:∀(pins:List (Addr×Obj)) (s:Shared) (σ:St) (H:Hp) (D:Ends) (EE:Value->St->Hp->Hp->Prop),Inv X pins σ H s->t D EE σ H->wpAny (model X.prog X.w) X.A (execs st X.env) (SP X pins D) (XLs X pins EE) s
def xPe (te:TE):TX:=fun σ H Q _=>te σ H Q
def VL (sp:Sp) (su:List V) (ta:TA):TX:=fun σ H Q EE=>ta σ H fun vs H1=>sp (vs++su) H1 Q (fun cls _ H2=>EE cls H1 H2)
def xIf (tc:TT) (a b:TX):TX:=fun σ H Q EE=>tc σ H fun d H1=>if d=true then a σ H1 Q EE else b σ H1 Q EE
def Zm (i:Nat) (t:TX):Qo:=fun D EE σ H=>t σ H (fun v H'=>D.nx (σ.set i (some v)) H') (fun cls H1 H2=>EE cls σ H1 H2)
def VH (t:TX):Qo:=fun D EE σ H=>t σ H (fun _ H'=>D.nx σ H') (fun cls H1 H2=>EE cls σ H1 H2)
def Zt (tc:TT) (a b:Qo):Qo:=fun D EE σ H=>tc σ H fun d H1=>if d=true then a D EE σ H1 else b D EE σ H1
def xPs (t:TS):Qo:=fun D _ σ H=>t D σ H
def Zo (a b:Qo):Qo:=fun D EE σ H=>a { D with nx:=fun σ' H'=>b D EE σ' H' } EE σ H
section
variable {X:Cx}
end
section
variable {X:Cx}
end
abbrev m9 (K:PySem.W.Frag) (x:Str) (st:Stmt) (f:Addr):Prop:=∃(oc:Value) (od an:Option Addr) (sl:Array (Option Value)) (kV dc pm cd ct:Value),PySem.W.nsIn K mainGlobals x=some (some (.ref f))/\K.lookup f=some ⟨oc,od,.func (PySem.W.fnOf x x (bN st) (bI st) (aC st) .none kV dc pm an cd ct),sl⟩/\PySem.W.codeIn K cd x=true/\PySem.W.keepIn K (.ref f)=true
abbrev Ri (K:PySem.W.Frag) (x:Str) (st:Stmt) (f:Addr) (T:Addr) (i:Int):Prop:=∃(oc oT:Value) (od an dT:Option Addr) (sl sT:Array (Option Value)) (kV dc pm cd ct:Value) (t:Tok) (nT:Nat),PySem.W.nsIn K mainGlobals x=some (some (.ref f))/\K.lookup f=some ⟨oc,od,.func (PySem.W.fnOf x x (bN st) (bI st) (aC st) (.ref T) kV dc pm an cd ct),sl⟩/\PySem.W.codeIn K cd x=true/\PySem.W.keepIn K (.ref f)=true/\K.lookup T=some ⟨oT,dT,.seq #[.int i t] nT,sT⟩
structure Has (K:PySem.W.Frag) (mg:Str->Option Value) (x:Str) (st:Stmt) (ps:List Str) where
 f:Addr
 fd:FuncData
 F:jh K x x st f fd
 b:Binds K fd ps []
 m:mg x=some (.ref f)
structure Ux (K:PySem.W.Frag) (mg:Str->Option Value) (x:Str) (st:Stmt) (ps:List Str) (i:Int) where
 f:Addr
 fd:FuncData
 T:Addr
 t:Tok
 F:Fe K x x st f fd T i t
 b:Binds K fd ps []
 bd:Binds K fd ps [.int i t]
 m:mg x=some (.ref f)
section
variable {K:PySem.W.Frag} {h:Heap} {mg:Str->Option Value}
theorem m9.mk {x:Str} {st:Stmt} {f:Addr} {oc:Value} {od an:Option Addr} {sl:Array (Option Value)} {kV dc pm cd ct:Value} (a:PySem.W.nsIn K mainGlobals x=some (some (.ref f))) (l:K.lookup f=some ⟨oc,od,.func (PySem.W.fnOf x x (bN st) (bI st) (aC st) .none kV dc pm an cd ct),sl⟩) (c:PySem.W.codeIn K cd x=true) (k:PySem.W.keepIn K (.ref f)=true):m9 K x st f:=⟨oc,od,an,sl,kV,dc,pm,cd,ct,a,l,c,k⟩
theorem Ri.mk {x:Str} {st:Stmt} {f T:Addr} {i:Int} {oc oT:Value} {od an dT:Option Addr} {sl sT:Array (Option Value)} {kV dc pm cd ct:Value} {t:Tok} {nT:Nat} (a:PySem.W.nsIn K mainGlobals x=some (some (.ref f))) (l:K.lookup f=some ⟨oc,od,.func (PySem.W.fnOf x x (bN st) (bI st) (aC st) (.ref T) kV dc pm an cd ct),sl⟩) (c:PySem.W.codeIn K cd x=true) (k:PySem.W.keepIn K (.ref f)=true) (e:K.lookup T=some ⟨oT,dT,.seq #[.int i t] nT,sT⟩):Ri K x st f T i:=⟨oc,oT,od,an,dT,sl,sT,kV,dc,pm,cd,ct,t,nT,a,l,c,k,e⟩
theorem m9.has {x:Str} {st:Stmt} {f:Addr} (e:m9 K x st f) (X:K.In h) (G:h.Ns mainGlobals mg) {ps:List Str} (H:∀(kV doc pm:Value) (an:Option Addr) (cdv ct:Value) (us:List Value),us.length=ps.length->bindArgs (PySem.W.fnOf x x (bN st) (bI st) (aC st) .none kV doc pm an cdv ct) ⟨us,[]⟩=pure (ps.zip us)):Nonempty (Has K mg x st ps):=by
 obtain⟨oc,od,an,sl,kV,dc,pm,cd,ct,a,l,c,k⟩:=e;have F:=Em (st:=st) l c k;exact⟨⟨_,_,F,F.binds H,PySem.W.mg_of X G a⟩⟩
theorem Ri.has {x:Str} {st:Stmt} {f T:Addr} {i:Int} (e:Ri K x st f T i) (X:K.In h) (G:h.Ns mainGlobals mg) {ps:List Str}
  (H:∀(t:Tok) (kV doc pm:Value) (an:Option Addr) (cdv ct:Value) (us:List Value),(us++[]).length=ps.length->∃k,bindArgs (PySem.W.fnOf x x (bN st) (bI st) (aC st) (.ref T) kV doc pm an cdv ct) ⟨us,[]⟩=seqItems? (.ref T) >>= k/\k (some #[.int i t])=pure (ps.zip (us++[])))
  (H':∀(t:Tok) (kV doc pm:Value) (an:Option Addr) (cdv ct:Value) (us:List Value),(us++[Value.int i t]).length=ps.length->∃k,bindArgs (PySem.W.fnOf x x (bN st) (bI st) (aC st) (.ref T) kV doc pm an cdv ct) ⟨us,[]⟩=seqItems? (.ref T) >>= k/\k (some #[.int i t])=pure (ps.zip (us++[.int i t]))):Nonempty (Ux K mg x st ps i):=by
 obtain⟨oc,oT,od,an,dT,sl,sT,kV,dc,pm,cd,ct,t,nT,a,l,c,k,e⟩:=e;have F:Fe K x x st f _ T i t:=⟨⟨_,_,_,_,_,_,_,_,_,rfl,l,c⟩,k,⟨_,_,e,rfl⟩⟩;exact⟨⟨_,_,_,_,F,F.binds (H t),F.binds (H' t),PySem.W.mg_of X G a⟩⟩
def Has.ct {x:Str} {st:Stmt} {ps:List Str} {k:Nat} {sp:Sp} (h:Has K mg x st ps) (P:Program) (w:World) (base:Heap) (G:bD P w K mg base fY k h.f h.fd ps sp):Ct P w K mg base k x ps sp:=⟨h.f,h.fd,G,h.F.kp,h.b,h.m⟩
def Ux.ct {x:Str} {st:Stmt} {ps:List Str} {i:Int} {k:Nat} {sp:Sp} (h:Ux K mg x st ps i) (P:Program) (w:World) (base:Heap) (G:bD P w K mg base fY k h.f h.fd ps sp):Jr P w K mg base k x ps i sp:=⟨h.f,h.fd,h.t,G,h.F.kp,h.b,h.bd,h.m⟩
abbrev Nb (K:PySem.W.Frag) (x:Str):Prop:=PySem.W.nsIn K mainGlobals x=some none
abbrev Ni (K:PySem.W.Frag) (x:Str) (i:Int):Prop:=∃t,PySem.W.nsIn K mainGlobals x=some (some (.int i t))
abbrev z7 (K:PySem.W.Frag) (x s:Str):Prop:=∃t,PySem.W.nsIn K mainGlobals x=some (some (.str s t))
theorem Ni.mk {x:Str} {i:Int} {t:Tok} (a:PySem.W.nsIn K mainGlobals x=some (some (.int i t))):Ni K x i:=⟨t,a⟩
theorem z7.mk {x s:Str} {t:Tok} (a:PySem.W.nsIn K mainGlobals x=some (some (.str s t))):z7 K x s:=⟨t,a⟩
theorem Ni.gi {x:Str} {i:Int} (e:Ni K x i) (X:K.In h) (G:h.Ns mainGlobals mg):Gi mg x i:=let ⟨t,z⟩:=e; ⟨t,PySem.W.mg_of X G z⟩
theorem z7.gs {x s:Str} (e:z7 K x s) (X:K.In h) (G:h.Ns mainGlobals mg):Gs mg x s:=let ⟨t,z⟩:=e; ⟨t,PySem.W.mg_of X G z⟩
abbrev NT (K:PySem.W.Frag) (x:Str) (vs:List Value):Prop:=∃(a:Addr) (n:Nat) (sl:Array (Option Value)),PySem.W.nsIn K mainGlobals x=some (some (.ref a))/\K.lookup a=some ⟨.type "tuple",none,.seq vs.toArray n,sl⟩
theorem NT.mk {x:Str} {vs:List Value} {a:Addr} {n:Nat} {sl:Array (Option Value)} (b:PySem.W.nsIn K mainGlobals x=some (some (.ref a))) (l:K.lookup a=some ⟨.type "tuple",none,.seq vs.toArray n,sl⟩):NT K x vs:=⟨a,n,sl,b,l⟩
end
theorem Mu:bootBuiltins "set" = some (.type "set"):=by decide +kernel
section
variable {X:Cx} {pins:List (Addr×Obj)} {σ:St} {H1:Hp} {s1 s':Shared}
end
section
variable {P:Program} {w:World} {K:PySem.W.Frag} {mg:Str->Option Value} {base:Heap}
structure CtF (P:Program) (w:World) (K:PySem.W.Frag) (mg:Str->Option Value) (base:Heap) (k:Nat) (x:Str) (ps:List Str) (i:Int) (sp:Sp) where
 f:Addr
 fd:FuncData
 t:Tok
 G:bD P w K mg base (MN P w) k f fd ps sp
 kp:PySem.W.keepIn K (.ref f)=true
 b:Binds K fd ps []
 bd:Binds K fd ps [.int i t]
 m:mg x=some (.ref f)
end
section
variable {X:Cx}
end
section
variable {X:Cx}
def Wn:List V->Hp->VK->Prop:=fun vs H Q=>∃j:Int,vs=[.int j]/\-(2 ^ 62)<=j/\j<2 ^ 62/\∀p H',H p=none->aL H H'->H' p=some (.Wj 0 j)->Q (.ref p) H'
def Wq:List V->Hp->VK->Prop:=fun vs H Q=>∃(p:Addr) (j:Int),vs=[.ref p]/\H p=some (.Wj 0 j)/\-(2 ^ 62)<=j/\j<2 ^ 62/\j.toNat<=1000/\∀l H',H l=none->aL H H'->H' l=some (.lst ((List.range j.toNat).map fun i:Nat=>V.int i))->Q (.ref l) H'
end
section
variable {X:Cx}
end
section
variable {X:Cx}
theorem Dk (hu:X.A.units+64<cLine):Jq X (fun o i v H Q=>∃a H',o=.ref a/\sO H a i v H'/\Q H'):=by
 refine .mk ?_;intro pins s σ H o i v ov iv u Q I ro ri rv h;obtain⟨a,H',rfl,g,q⟩:=h;cases ro;exact xH (by omega) I g ri rv fun s' I'=>⟨H',I',q⟩
theorem pN (hu:X.A.units+64<cLine):Jy X (fun x y H Q=>∃a v,x=.ref a/\j8 H a y (some v)/\Q v H):=by
 refine .mk ?_;intro value slice pins s σ H x y v u Q I rx ry h hs;obtain⟨a,v',rfl,g,q⟩:=h;cases rx;have hT:=BR I g;unfold subscriptTail;refine aP ?_;rw[getitemInPython_of_ne hT.not_modules];refine aP (wpAny_specialOf hT PySem.F.slot_dict_getitem.lookup ?_)
 have fin:wpAny (model X.prog X.w) X.A (subscripted slice false (.ref a) u) (fun r s₃=>wpAny (model X.prog X.w) X.A (letTemporaryGo value (.ref a) r >>= fun _=>pure r) (EP X pins σ Q) X.xe s₃) X.xe s:=by
  rw[hs];exact wpAny_operating (xJ (by omega) I g ry fun w' s' I' Ao=>aP (wpAny_letTemporaryGo (bW ⟨v',H,I',Ao,q⟩)))
 first
  | exact bW (aP fin)
  | exact aP (bW (aP fin))
  | exact aP fin
end
section
variable {X:Cx}
end
section
variable {X:Cx}
end
section
variable {X:Cx}
end
section
variable {X:Cx}
end
abbrev TAX:=St->Hp->(List V->Hp->Prop)->(Value->Hp->Hp->Prop)->Prop
structure PXA (X:Cx) (es:List Expr) (t:TAX):Prop where
 mk ::
 go:∀(pos:Pos) (pins:List (Addr×Obj)) (s:Shared) (σ:St) (H:Hp) (Q:List V->Hp->Prop) (EE:Value->Hp->Hp->Prop),Inv X pins σ H s->t σ H Q EE->wpAny (model X.prog X.w) X.A (spliced (backTo pos (starEach es X.env))) (AP X pins σ Q) (XL X pins σ EE) s
def Zq:TAX:=fun _ H Q _=>Q [] H
def VJ (t:TX) (u:TAX):TAX:=fun σ H Q EE=>t σ H (fun v H1=>u σ H1 (fun vs H2=>Q (v::vs) H2) EE) EE
def Zr (t:TAX):TX:=fun σ H Q EE=>t σ H (fun xs H1=>xs.length<=sizeLine/\∀p H',H1 p=none->aL H1 H'->H' p=some (.lst xs)->Q (.ref p) H') EE
def Zk (t:TAX):TX:=fun σ H Q EE=>t σ H (fun xs H1=>xs.length<=sizeLine/\∀p H',H1 p=none->aL H1 H'->H' p=some (.tup xs)->Q (.ref p) H') EE
section
variable {X:Cx}
end
theorem Mj {K:PySem.W.Frag} {nt:Nat} {g:TG} {js:List Nat} {a:Addr} {xs:List V} {tl te:TE} {σ:St} {H:Hp} {Q:VK} (τ:Nat->St) (hτ:∀i,(τ i).length=nt) (hl:∀R:VK,R (.ref a) H->tl σ H R) (ha:H a=some (.lst xs))
  (h:∀acc,H acc=none->∃Pv:Nat->List V->Hp->Prop,Pv 0 [] (upd H acc (.lst []))/\(∀i ys H',Pv i ys H'->H' a=some (.lst xs)) /\
   (∀i x ys H',xs[i]?=some x->Pv i ys H'->(∀R:St->Hp->Prop,R (τ i++cH js σ) H'->g x (List.replicate nt none++cH js σ) H' R)/\te (τ i++cH js σ) H' fun y H4=>H4 acc=some (.lst ys)/\ys.length<sizeLine/\Pv (i+1) (ys++[y]) (upd H4 acc (.lst (ys++[y]))))/\∀ys H',Pv xs.length ys H'->Q (.ref acc) H'):jQ nt js (pO K tl) g Hk te σ H Q:=by
 refine hl _ ⟨a,rfl,⟨xs,cV.of ha⟩,fun acc hacc=>?_⟩;obtain⟨Pv,p0,pA,ps,pf⟩:=h acc hacc;refine⟨fun i m ys H2=>m=xs.length-i/\i<=xs.length/\Pv i ys H2,⟨_,rfl,iY _,p0⟩,?_⟩;rintro i m ys H2 ⟨rfl,hi,hP⟩;have ht:cV K H2 a xs:=cV.of (pA _ _ _ hP);by_cases hlt:i<xs.length
 ·refine .inr ⟨⟨xs,xs[i],ht,gG hlt⟩,fun x H3 y=>?_⟩;obtain⟨e1,y⟩:=y;subst e1;obtain⟨gg,tt⟩:=ps i x ys _ (y xs ht) hP;refine gg _ ⟨⟨?_,?_⟩,?_⟩
  ·rw[List.drop_append_of_le_length (by rw[hτ]; exact bG _),<- hτ i,Du,List.nil_append]
  ·rw[dh,dh,hτ,qJ]
  unfold Hk;simp only[if_true]
  have e:(fun(y:V) (H4:Hp)=>H4 acc=some (.lst ys)/\ys.length<sizeLine/\Pv (i+1) (ys++[y]) (upd H4 acc (.lst (ys++[y]))))=fun y H4=>H4 acc=some (.lst ys)/\ys.length<sizeLine/\∃m',m'<xs.length-i/\(m'=xs.length-(i+1)/\i+1<=xs.length/\Pv (i+1) (ys++[y]) (upd H4 acc (.lst (ys++[y])))):=
   funext fun y=>funext fun H4=>propext ⟨fun⟨z1,z2,z3⟩=>⟨z1,z2,xs.length-(i+1),by omega,rfl,hlt,z3⟩,fun⟨z1,z2,_,_,_,_,z3⟩=>⟨z1,z2,z3⟩⟩
  rw[e] at tt;exact tt
 ·have e:i=xs.length:=by omega
  subst e;exact .inl ⟨⟨xs,ht,bG _⟩,pf _ _ hP⟩
section
variable {prog:Program} {w:World} {A:Around} {E:Value->Shared->Prop} {s:Shared}
end
section
variable {X:Cx} {pins:List (Addr×Obj)} {σ:St} {H1:Hp} {s1 s':Shared}
end
def tV (nt:Nat) (js:List Nat) (wi:TI) (g:TG) (tk tv:TE):TE:=fun σ H Q=>wi σ H fun J H1=>∀acc,H1 acc=none->∃W:Nat->Nat->List (Key×V)->Hp->Prop,(∃m,W 0 m [] (upd H1 acc (.dK [])))/\∀i m kvs H2,W i m kvs H2 ->
 (J.stop i H2/\Q (.ref acc) H2)\/(J.go i H2/\∀x H3,J.Fi i H2 x H3->g x (List.replicate nt none++cH js σ) H3 fun σ' H'=>(σ'.drop nt=cH js σ/\σ'.length=(List.replicate nt (none:Option V)++cH js σ).length)/\tk σ' H' fun y H4=>tv σ' H4 fun v H5=>
  ∃k,y=kV k/\H5 acc=some (.dK kvs)/\kvs.length<sizeLine/\∃m',m'<m/\W (i+1) m' (putK kvs k v) (upd H5 acc (.dK (putK kvs k v))))
theorem wB {prog:Program} {w:World} {A:Around} {R:Result->Shared->Prop} {s:Shared} {kx vx target iter:Expr} {sc:Scope} {pos:Pos} {it:Value} {D:Addr} {env:Env} (Iv:Nat->Shared->Prop)
  (turn:∀n s,Iv n s->wpAny (model prog w) A (pyNext it) (fun r s1=>match r with
   | none=>R (.ok .next) s1
   | some v=>wpAny (model prog w) A (letOwnedTupleGo target it v) (fun _ s2=>wpAny (model prog w) A (assign target env v) (fun _ s3=>
     wpAny (model prog w) A (eval kx env) (fun kv s4=>wpAny (model prog w) A (eval vx env) (fun vv s5=>
     wpAny (model prog w) A (dictSet D kv vv) (fun _ s6=>∃m,m<n/\Iv m s6) (fun _ _=>False) s5) (fun _ _=>False) s4) (fun _ _=>False) s3) (fun _ _=>False) s2) (fun _ _=>False) s1) (fun _ _=>False) s)
  (n:Nat) (h:Iv n s):codeAny (model prog w) A (.compLoop (.DictComp kx vx [⟨target,iter,[],0⟩] sc pos) 0 it (.ref D) env) R s:=by
 refine codeAny_loop rfl Iv (fun n s hI=>?_) n h;show wpAny _ _ ((compTurn (.DictComp kx vx [⟨target,iter,[],0⟩] sc pos) 0 it (.ref D) env).onRaise (fun x=>do noteFrame x env; theTreesLotGoes x)) _ _ s
 refine wpAny_noted ?_;rw[compTurn_dict];refine aP (yq (aP (mU (turn n s hI) (fun r s1 q1=>?_) fun _ _ f=>f.elim)));cases r with
 | none=>exact bW q1
 | some v=>
  refine aP (mU q1 (fun _ s2 q2=>?_) fun _ _ f=>f.elim);refine aP (mU q2 (fun _ s3 q3=>aP (wpAny_tests_nil ?_)) fun _ _ f=>f.elim);exact aP (aP (mU q3 (fun kv s4 q4=>aP (mV (mU q4 (fun vv s5 q5=>aP (yq (mV (mU q5 (fun _ s6 q6=>bW ⟨rfl,q6⟩) fun _ _ f=>f.elim)))) fun _ _ f=>f.elim))) fun _ _ f=>f.elim))
theorem vm {X:Cx} {kx vx iter:Expr} {tg:Expr} {g:TG} {nt:Nat} {pos:Pos} {sc:Scope} {wi:TI} {tk tv:TE} {N':List Str} {js:List Nat} {use:Option (Value->Sem Unit)} {Qc:Value->Shared->Prop} {pins:List (Addr×Obj)} {s:Shared} {σ:St} {H:Hp} {Q:VK} {kp:Pos} (hc:X.calm=true) (hi:PI X tg iter wi) (S:ql X nt N' js sc)
  (hgt:∀fp s H,PG (mQ X N' sc fp s H) tg g) (hk:∀fp s H,PE (mQ X N' sc fp s H) kx tk) (hv:∀fp s H,PE (mQ X N' sc fp s H) vx tv) (hs:∀x,foldedSetIterable iter X.env x=pure x) (I:Inv X pins σ H s) (h:tV nt js wi g tk tv σ H Q)
  (fin:∀(acc C:Addr) (H':Hp) (s':Shared),Inv X pins σ H' s'->fK X pins H' C->(∃m,s'.heap.Ns C m)->Q (.ref acc) H'->compPost (model X.prog X.w) X.A X.xe use Qc (.ref acc) C (.ok .next) s') :
  wpAny (model X.prog X.w) X.A (comprehension (.DictComp kx vx [⟨tg,iter,[],0⟩] sc pos) sc X.env kp newDict false (eval iter X.env) use) Qc X.xe s:=by
 refine wpAny_comprehension_free (use:=use) rfl hs S.clos S.kind S.names ?_;refine cz (hi pins s σ H _ I h) fun v s1 q1=>cz q1 fun itv s2 q2=>?_;obtain⟨it,fp,tn,J,H2,e,I2,T,st2,f2,q3⟩:=q2;subst e;refine vQ ?_;obtain⟨W,⟨m0,w0⟩,turn⟩:=q3 s2.heap.objs.size I2.fresh;have I3:=I2.laid (a:=s2.heap.objs.size) (o:=.dK []) (t':=s2.toks) (fun _ _ q=>e_ _ q) (bG _) (BP s2.heap I2.big)
 have W6:∀b∈fp,b<s2.heap.objs.size:=fun b hb=>by
  obtain⟨o,ho,_⟩:=T.obj 0 _ st2 b hb;exact b8 ho
 generalize e3:({ s2 with heap:=s2.heap.push { cls:=.type "dict",data:=.dict #[] },toks:=s2.toks }:Shared)=s3 at I3
 have e3':({ s2 with heap:=s2.heap.push { cls:=.type "dict",dict:=none,data:=.dict #[] } }:Shared)=s3:=e3
 have ZP:s3.heap.objs.size=s2.heap.objs.size+1:=by rw[<- e3]; exact gY ..
 have st3:tn 0 s3.heap:=T.keep 0 _ _ st2 fun b hb o ho=>by rw[<- e3]; exact e_ _ ho
 have W5:∀b∈fp,b<s3.heap.objs.size:=fun b hb=>by rw[ZP]; exact Bb (W6 b hb)
 have f3:∀b∈fp,fK X pins (upd H2 s2.heap.objs.size (.dK [])) b:=fun b hb=>⟨by rw[aJ (dM (W6 b hb))]; exact(f2 b hb).1,(f2 b hb).2⟩
 generalize hH3:upd H2 s2.heap.objs.size (.dK [])=H3 at I3 f3 w0;refine m_ ?_;generalize Uc:pushCells (s3.heap.push { cls:=.type "dict",data:=.dict #[] }) sc.names=h1;have hkp:∀b o,s3.heap.get? b=some o->h1.get? b=some o:=fun b o q=>by rw[<- Uc]; exact pushCells_keeps _ _ b o (e_ _ q)
 have hns':h1.Ns s3.heap.objs.size fun _=>none:=by rw[<- Uc]; exact(Heap.Ns.new s3.heap (.type "dict")).keeps (pushCells_keeps _ _)
 have I4:Inv (mQ X N' sc fp s3 H3) [] (List.replicate nt none++cH js σ) H3 { s3 with heap:=h1,toks:=s3.toks }:=xn I3 f3 W5 S (fun {x c} e=>by
  have:=pZ sc.names (s3.heap.push { cls:=.type "dict",data:=.dict #[] }) (oM sc X.env) x c (by rw[gY]; exact e)
  rw[Uc,gY] at this
  exact this) hns' hkp
 have V7:tn 0 h1:=T.keep 0 _ _ st3 fun b hb o ho=>hkp b o ho;have stat:∀{H':Hp},(∀b∈fp,H' b=none)->∀b∈fp,fK (mQ X N' sc fp s3 H3) [] H' b:=fun hn b hb=>⟨hn b hb,dM (W5 b hb),I4.ok.Jf b hb,.inl hb,(I4.ok.YM b hb).2,fun p hp=>absurd (show p∈([]:List (Addr×Obj)) from hp) (by simp)⟩
 have out:∀{σ':St} {H':Hp} {s':Shared},Inv (mQ X N' sc fp s3 H3) [] σ' H' s'->Q (.ref s2.heap.objs.size) H'->compPost (model X.prog X.w) X.A X.xe use Qc (.ref s2.heap.objs.size) s3.heap.objs.size (.ok .next) s':=by
  intro σ' H' s' I' q';obtain⟨m,hn,_⟩:=id I'.loc;have I5:Inv X pins σ H' s':=I3.call' I'.os I'.base I'.hok I'.bare fun b hb=>⟨(f3 b hb).2.2.2.1,(f3 b hb).2.1,(f3 b hb).2.2.2.2.1,(f3 b hb).2.2.2.2.2⟩;exact fin _ _ H' s' I5 (I3.vg (bG _) I'.free) ⟨m,hn⟩ q'
 have loop:∀s4:Shared,s4={ s3 with heap:=h1,toks:=s3.toks }->codeAny (model X.prog X.w) X.A (.compLoop (.DictComp kx vx [⟨tg,iter,[],0⟩] sc pos) 0 (.ref it) (.ref s2.heap.objs.size) (compEnvC sc (cellsFrom (s3.heap.objs.size+1) sc.names (oM sc X.env)) s3.heap.objs.size X.env))
   (compPost (model X.prog X.w) X.A X.xe use Qc (.ref s2.heap.objs.size) s3.heap.objs.size) s4:=by
  rintro s4 rfl;refine wB (fun n s'=>∃i ys H',Inv (mQ X N' sc fp s3 H3) [] (List.replicate nt none++cH js σ) H' s'/\tn i s'.heap/\(∀b∈fp,H' b=none)/\W i n ys H') ?_ m0 ⟨0,[],H3,I4,V7,fun b hb=>(f3 b hb).1,w0⟩;rintro n s5 ⟨i,ys,H5,I5,NK,TY,w5⟩;rcases turn i n ys H5 w5 with⟨stop,qn⟩ | ⟨go,step⟩
  ·refine cz (T.done (mQ X N' sc fp s3 H3) rfl rfl rfl hc i [] s5 _ H5 (fun _ _=>False) I5 (stat TY) NK stop) fun r s6 qx=>?_;obtain⟨hr,I6⟩:=qx;subst hr;exact out I6 qn
  ·refine cz (T.item (mQ X N' sc fp s3 H3) rfl rfl rfl hc i [] s5 _ H5 (fun _ _=>False) I5 (stat TY) NK go) fun r s6 qx=>?_;obtain⟨u,hr,q6⟩:=qx;subst hr;refine cz q6 fun _ s7 qx=>?_;obtain⟨y,H7,I7,r7,y7,NB,Q6⟩:=qx;have I7':=I7.pinned (stat Q6) (T.obj _ _ NB);refine cz (hgt fp s3 H3 _ s7 _ H7 y u _ I7' r7 (step y _ y7)) fun _ s8 qx=>?_;obtain⟨σ8,H8,I8,hsh,q8⟩:=qx
   have wk:∀k v,(List.replicate nt none++cH js σ)[k]?=some (some v)->σ8[k]?=some (some v):=fun k v e=>by
    by_cases hlt:k<nt
    ·rw[Om (by rw[qJ]; exact hlt),Oj,a_ hlt] at e
     cases e
    ·rw[HH (by rw[qJ]; omega),qJ,<- hsh.1,Ko] at e
     rw[show nt+(k-nt)=k by omega] at e
     exact e
   refine cz (hk fp s3 H3 _ s8 _ _ _ I8 q8) fun zk s9 qx=>?_;obtain⟨yk,H9,I9,rk,q9⟩:=qx;refine cz (hv fp s3 H3 _ s9 _ _ _ I9 q9) fun zv yj qx=>?_;obtain⟨yv,G6,Vr,rv,k,ek,ha,hz,m',hm,w10⟩:=qx;subst ek;obtain⟨z,hd,vs,rel,dd⟩:=GD Vr.hok ha;have hz':vs.length<=sizeLine:=by rw[<- rel.length]; exact z
   have hl:(putK ys k yv).length<=sizeLine:=by have:=gK ys k yv; omega
   refine wpAny_dictSet_pairs (hsz:=hz') (Bx rk) dd fun h' Qg hs'=>?_;have he:∃q,h'.get? s2.heap.objs.size=some q:=let ⟨q,_,_,hq,_⟩:=Qg; ⟨q,hq⟩;have I11:=pW (t':=yj.toks+1) Vr (by rw[ha]; exact True.intro) hs' he (zE hl hd (rel.put k rv) Qg)
   refine⟨m',hm,i+1,putK ys k yv,_,(I11.gB).weak hsh.2.symm wk,T.keep _ _ _ NB fun b hb o e=>(I11.pin (b,o) (gH _ (gH _ (cU hb e)))).1,fun b hb=>?_,w10⟩;obtain⟨o,e,d⟩:=T.obj _ _ NB b hb;exact(I11.pin (b,o) (gH _ (gH _ (cU hb e)))).2.1
 exact codeAny_compStart_dict (loop _ rfl) (T.self X.A 0 _ _ _ V7 (loop _ rfl))
theorem Ku {X:Cx} {kx vx iter:Expr} {tg:Expr} {g:TG} {nt:Nat} {y:Str} {py pos spos:Pos} {sc:Scope} {wi:TI} {tk tv:TE} {N':List Str} {js:List Nat} {i:Nat} (hN:X.N.Nodup) (hi':X.N[i]?=some y) (hy:Loc X.env.scope y) (hc:X.calm=true) (hi:PI X tg iter wi) (S:ql X nt N' js sc)
  (hgt:∀fp s H,PG (mQ X N' sc fp s H) tg g) (hk:∀fp s H,PE (mQ X N' sc fp s H) kx tk) (hv:∀fp s H,PE (mQ X N' sc fp s H) vx tv) (hs:∀x,foldedSetIterable iter X.env x=pure x:=by intro _; rfl) (hw:swapsWith (.DictComp kx vx [⟨tg,iter,[],0⟩] sc pos) (some (.Name y py)) spos.line X.env=pure true:=by rfl)
  (hf:X.fn y=true\/X.env.scope.names.lookup y=some .local:=by first | exact .inl rfl | exact .inr rfl | assumption) :
  PS X (.Assign [.Name y py] (.DictComp kx vx [⟨tg,iter,[],0⟩] sc pos) spos) (tW (tV nt js wi g tk tv) (fM i)):=by
 refine .mk ?_;intro pins s σ H D I h;rw[exec_Assign_Name_used _ _ _ _ hw];refine aP (yq (aP ?_));refine aP (vm hc hi S hgt hk hv hs I h fun acc C H' s' I5 fc ⟨m,hn⟩ q=>?_)
 have ho:∀b∈[C],∃o,s'.heap.get? b=some o/\∀v,o.data≠.cell v:=fun b hb=>by
  rw[gF.mp hb];obtain⟨o,es,n,e,ed,_⟩:=hn;exact⟨o,e,fun v z=>by rw[ed] at z; cases z⟩
 have I6:=I5.pinned (fp:=[C]) (fun b hb=>by rw[gF.mp hb]; exact fc) ho
 have hg:PG X (.Name y py) (fM i):=aF hN hi' hy hf;show wpAny _ _ (assign (.Name y py) X.env (.ref acc)) (fun _ s''=>∃m,s''.heap.Ns C m/\∀h',Heap.SameBut C s''.heap h'->_) _ s';refine cz (hg _ s' _ H' (.ref acc) (.ref acc) _ I6 rfl q) fun _ s7 qx=>?_;obtain⟨σ7,H7,I7,q7⟩:=qx
 have pc:∀o,s'.heap.get? C=some o->s7.heap.get? C=some o/\H7 C=none:=fun o e=>by
  have:=I7.pin (C,o) (gH _ (gH _ (cU (by simp) e)))
  exact⟨this.1,this.2.1⟩
 refine⟨m,hn.at fun o e=>(pc o e).1,fun h' sb=>bW (bW ⟨σ7,H7,?_,q7⟩)⟩
 have fr:H7 C=none:=by
  obtain⟨o,es,n,e,ed,_⟩:=hn;exact(pc o e).2
 exact I7.gB.turned (it:=C) (t':=s7.toks) (fun b o hb e=>sb.extBut b o hb e) fr fc.2.1 fc.2.2.2.1 fc.2.2.2.2.1 fc.2.2.2.2.2
theorem uK {X:Cx} {kx vx iter tg:Expr} {g:TG} {nt:Nat} {pos:Pos} {sc:Scope} {wi:TI} {tk tv:TE} {N':List Str} {js:List Nat} (hc:X.calm=true) (hi:PI X tg iter wi) (S:ql X nt N' js sc)
  (hgt:∀fp s H,PG (mQ X N' sc fp s H) tg g) (hk:∀fp s H,PE (mQ X N' sc fp s H) kx tk) (hv:∀fp s H,PE (mQ X N' sc fp s H) vx tv) (hs:∀x,foldedSetIterable iter X.env x=pure x:=by intro _; rfl):PE X (.DictComp kx vx [⟨tg,iter,[],0⟩] sc pos) (tV nt js wi g tk tv):=by
 refine .mk ?_;intro pins s σ H Q I h;rw[arm_eval_DictComp];refine vm (use:=none) hc hi S hgt hk hv hs I h fun acc C H' s' I5 fc ⟨m,hn⟩ q=>?_;refine⟨m,hn,fun h' sb=>?_⟩;exact⟨.ref acc,H',I5.turned (it:=C) (t':=s'.toks) (fun b o hb q=>sb.extBut b o hb q) fc.1 fc.2.1 fc.2.2.2.1 fc.2.2.2.2.1 fc.2.2.2.2.2,rfl,q⟩
theorem Inv.freeze {X:Cx} {pins:List (Addr×Obj)} {σ:St} {H:Hp} {s:Shared} {d:Addr} {kvs:List (Key×V)} (I:Inv X pins σ H s) (hd:H d=some (.dK kvs)) :
  ∃o es ep,s.heap.get? d=some o/\o.data=.dict es ep/\Inv X pins σ (upd H d (.rG o (.dK kvs))) s:=by
 obtain⟨z,y,vs,r,o,es,ep,e,c,hdt,rest⟩:=id (I.hok d _ hd);refine⟨o,es,ep,e,hdt,?_⟩;have:=pW (t':=s.toks) (h':=s.heap) (ob:=.rG o (.dK kvs)) I (by rw[hd]; exact True.intro) (Heap.SameBut.refl _ _) ⟨o,e⟩ ⟨e,z,y,vs,r,o,es,ep,e,c,hdt,rest⟩
 exact this
theorem Inv.ZF {X:Cx} {pins:List (Addr×Obj)} {σ σ':St} {H H':Hp} {s s':Shared} {d:Addr} {kvs:List (Key×V)} {o:Obj} (I:Inv X pins σ H s) (hd:H d=some (.dK kvs)) (J:Inv X pins σ' H' s') (hf:H' d=some (.rG o (.dK kvs))) :
  Inv X pins σ' (upd H' d (.dK kvs)) s':=by
 have ne:∀b,H' b=none->b≠d:=fun b n z=>by rw[z,hf] at n; cases n
 refine⟨J.ok,J.os,J.bare,⟨J.base.keep,J.base.slot,fun b q e n x=>?_,J.base.there,fun b xs e=>?_,fun b q u e=>?_,fun b ps e=>?_⟩,J.loc,J.cell,?_,fun x c e=>?_,fun p hp=>?_,fun b u e=>?_,J.len⟩
 ·rw[aJ (ne b (J.base.free b q e n x))];exact J.base.free b q e n x
 ·have:=J.base.tups b xs e;rw[aJ (fun z=>by rw[z,hf] at this; cases this)]
  exact this
 ·have h1:=I.base.vf b q u e;rw[aJ (fun z=>by rw[z,hd] at h1; cases h1)]
  exact J.base.vf b q u e
 ·obtain⟨m,h1⟩:=J.base.xY b ps e;refine⟨m,?_⟩;rw[aJ (fun z=>by rw[z,hf] at h1; cases h1)]
  exact h1
 ·rw[aJ (ne _ J.free)]; exact J.free
 ·rw[aJ (ne _ (J.jN x c e))]; exact J.jN x c e
 ·obtain⟨h1,h2,h3⟩:=J.pin p hp;exact⟨h1,by rw[aJ (ne _ h2)]; exact h2,h3⟩
 ·have own:∀c,H' c=some (.own b)->upd H' d (.dK kvs) c=some (.own b):=fun c q=>by rw[aJ (fun z=>by rw[z,hf] at q; cases q)]; exact q
  have tup:∀c xs,H' c=some (.tup xs)->upd H' d (.dK kvs) c=some (.tup xs):=fun c xs q=>by rw[aJ (fun z=>by rw[z,hf] at q; cases q)]; exact q
  by_cases z:b=d
  ·rw[z,aA] at e;cases e;rw[z];exact(show cN _ _ _ _ _ _ from(show cN X.prog X.w H' s'.heap d (.rG o (.dK kvs)) from J.hok d _ hf).2).stay (fun _ _ _ q=>q) (fun c q=>by rw[aJ (fun z=>by rw[z,hf] at q; cases q)]; exact q) tup
  ·rw[aJ z] at e;exact(J.hok b u e).stay (fun _ _ _ q=>q) own tup
def Qx (t:TE):TE:=fun σ H Q=>t σ H fun v H'=>∃d kvs o,H d=some (.dK kvs)/\H' d=some (.rG o (.dK kvs))/\Q v (upd H' d (.dK kvs))
theorem OD {X:Cx} {e:Expr} {t:TE} (h:PE X e t):PE X e (Qx t):=by
 refine .mk ?_;intro pins s σ H Q I hq;refine cz (h pins s σ H _ I hq) fun u s1 qx=>?_;obtain⟨v,H1,I1,r,d,kvs,o,h1,h2,q⟩:=qx;exact⟨v,_,I.ZF h1 I1 h2,r,q⟩
def ItV (d:Addr) (o:Obj) (kvs:List (Key×V)):It:=
 ⟨fun i H=>H d=some (.rG o (.dK kvs))/\i<kvs.length,fun i H x H'=>H'=H/\∃k,kvs[i]?=some (k,x),fun i H=>H d=some (.rG o (.dK kvs))/\kvs.length<=i⟩
theorem En {X:Cx} {pins:List (Addr×Obj)} {σ:St} {H:Hp} {s:Shared} {d:Addr} {kvs:List (Key×V)} {o:Obj} {es:Array DictEntry} {ep:Nat} (I:Inv X pins σ H s) (hd:H d=some (.rG o (.dK kvs))) (ho:o.data=.dict es ep) :
  ∃vs,KV kvs vs/\s.heap.DictAt (dg X.prog X.w) d vs ep:=by
 obtain⟨e,z,y,vs,r,o',es',ep',e',c,hdt,rest⟩:=(show cN X.prog X.w H s.heap d (.rG o (.dK kvs)) from I.hok d _ hd);rw[e] at e';cases e';rw[ho] at hdt;cases hdt;exact⟨vs,r,o,es,e,c,ho,rest⟩
theorem Td {kvs:List (Key×V)} {vs:List (Key×Value)} (r:KV kvs vs):∀{i:Nat} {k:Key} {x:V},kvs[i]?=some (k,x)->∃u,vs[i]?=some (k,u)/\RelV x u:=by
 induction r with
 | nil=>intro i k x h; cases h
 | @cons a b l1 l2 h1 h2 ih=>
  intro i k x h;cases i with
  | zero=>
   cases h;obtain⟨e1,e2⟩:=h1;exact⟨b.2,by rw[List.getElem?_cons_zero]; congr 1; exact Prod.ext e1.symm rfl,e2⟩
  | succ i=>exact ih h
theorem Hc {P:Program} {w:World} {K:PySem.W.Frag} {tg:Expr} {d it:Addr} {o:Obj} {kvs:List (Key×V)} {es:Array DictEntry} {ep:Nat} (ho:o.data=.dict es ep):Turn P w K tg (ItV d o kvs) [it] it (fun i h=>h.IsValIter it d i kvs.length ep) where
 mem:=by simp
 obj:=fun i h st b hb=>by
  have e:b=it:=by simpa using hb
  subst e;obtain⟨o,e,c,d⟩:=st;exact⟨o,e,fun v z=>by rw[d] at z; cases z⟩
 keep:=fun i h h' st k=>st.at fun o e=>k it (by simp) o e
 item:=by
  intro X hP hw hK hc i pins s σ H E I hf st hg;subst hP hw hK;obtain⟨hd,hi⟩:=hg;obtain⟨vs,r,da⟩:=En I hd ho;obtain⟨u,hu,ru⟩:=Td r (i:=i) (k:=(kvs[i]).1) (x:=(kvs[i]).2) (gG hi);obtain⟨f0,f1,f2,f3,f4,f5⟩:=hf it (by simp)
  have st2:s.heap.IsValIter it d i vs.length ep:=by rw[<- r.length]; exact st
  refine wpAny_pyNext_values_item st2 da hu fun h' st' sb=>?_;have I1:Inv X pins σ H { s with heap:=h' }:=I.turned (t':=s.toks) (fun b o hb e=>(sb.2 b hb).trans e) f0 f1 f3 f4 f5
  obtain⟨o2,e2,c2,d2⟩:=id st';refine⟨u,rfl,xr (s:={ s with heap:=h' }) e2 c2 d2 (by decide) ⟨(kvs[i]).2,H,I1,ru,⟨rfl,(kvs[i]).1,gG hi⟩,?_,fun b hb=>(hf b hb).1⟩⟩
  rw[r.length]; exact st'
 done:=by
  intro X hP hw hK hc i pins s σ H E I hf st hg;subst hP hw hK;obtain⟨hd,hi⟩:=hg;obtain⟨vs,r,da⟩:=En I hd ho;obtain⟨f0,f1,f2,f3,f4,f5⟩:=hf it (by simp)
  have st2:s.heap.IsValIter it d i vs.length ep:=by rw[<- r.length]; exact st
  exact wpAny_pyNext_values_end (I.ok.hd hc) st2 da (List.getElem?_eq_none_iff.mpr (by rw[<- r.length]; exact hi)) fun h' eb=>⟨rfl,I.turned (t':=s.toks) (fun b o hb e=>eb b o hb e) f0 f1 f3 f4 f5⟩
 self:=fun _ _ _ _ _ st h=>wpAny_pyIter_valiter st h
def Q4 (K:PySem.W.Frag) (to:TE):TI:=fun σ H R=>to σ H fun x H1=>∃d kvs,x=.ref d/\H1 d=some (.dK kvs)/\∀o,R (ItV d o kvs) (upd H1 d (.rG o (.dK kvs)))
theorem Ov {X:Cx} {K:PySem.W.Frag} {tg o:Expr} {to:TE} {apos cpos:Pos} (hK:X.K=K) (ho:PE X o to) (hbase:attributeBase o "values" X.env (eval o X.env)=eval o X.env:=by rfl) (hline:(apos.endLine==cpos.line)=true:=by rfl) :
  PI X tg (.Call (.Attribute o "values" apos) [] [] cpos) (Q4 K to):=by
 refine .mk ?_;intro pins s σ H R I h;refine wpAny_Call_method0_late hbase hline (cz (ho pins s σ H _ I h) fun v s1 qx=>?_);obtain⟨x,H1,I1,r1,d,kvs,ex,hd,q⟩:=qx;subst ex;cases r1;obtain⟨hz,hsm,vs,rel,dd⟩:=GD I1.hok hd;have tyd:Yc X.K "dict" (.ref d) H1:=.inr (.inr (.inl ⟨rfl,.inl ⟨kvs,hd⟩⟩));obtain⟨h1,h2⟩:=JM I1 (x:=.ref d) (v:=.ref d) rfl tyd;refine⟨"dict","dict.values",PySem.F.plainAttrs_dict,PySem.F.slot_dict_values,PySem.F.type_dict_values,h1,h2,Calls.callWith_builtin rfl (PySem.evalArgs_none ?_)⟩;refine call_meetsIn PySem.F.slot_dict_values dd.typeIs PySem.F.entry_dict_values (PySem.F.args_dict_values_1 _) (meets_dict_values (dg X.prog X.w) d hsm) ⟨⟨vs,dd⟩,?_⟩;have I2:Inv X pins σ H1 { s1 with heap:=s1.heap.push { cls:=.type "dict_values",data:=.fields #[.ref d] } }:=I1.kept (t':=s1.toks) fun b u e=>e_ _ e
 obtain⟨ob,es,ep,he,hdt,I3⟩:=I2.freeze hd;obtain⟨vs',r',da⟩:=En I3 aA hdt;refine wpAny_pyIter_values (v:=s1.heap.objs.size) ⟨_,dN _ rfl,rfl,rfl⟩ da ?_;have hz2:(s1.heap.push { cls:=.type "dict_values",data:=.fields #[.ref d] }).objs.size=s1.heap.objs.size+1:=gY ..;refine⟨_,[_],_,_,_,rfl,I3.kept (t':=s1.toks) fun b u e=>e_ _ e,Hc hdt,?_,fun b hb=>?_,q ob⟩
 ·exact⟨_,dN _ rfl,rfl,by rw[r'.length]; rfl⟩
 ·have e:=gF.mp hb;subst e;exact I3.vg (bG _) (I3.hok.fresh (bG _))
theorem Et {X:Cx}:du X (.type "dict") (fun vs H Q=>∃(d:Addr) (kvs:List (Key×V)),vs=[.ref d]/\H d=some (.dK kvs)/\∀p H',H p=none->aL H H'->H' p=some (.dK kvs)->Q (.ref p) H'):=by
 refine .mk ?_;intro pins s σ H vs us Q I r h;obtain⟨d,kvs,rfl,hd,q⟩:=h;obtain⟨u,rfl,ru⟩:=r.one;cases ru;exact Mh I (.inl hd) fun p s' hp I'=>⟨.ref p,_,I',rfl,q p _ hp (aN hp _) aA⟩
def oO (l:List Str) (x:Str):List Str:=if l.any (· == x) then l else l++[x]
def j0 (val:Nat->Str) (i:Nat):List Str:=((List.range i).map val).foldl oO []
theorem qN (val:Nat->Str) (i:Nat):j0 val (i+1)=oO (j0 val i) (val i):=by
 unfold j0; rw[List.range_succ,jK,List.foldl_append]; rfl
theorem Gn (val:Nat->Str):∀i,(j0 val i).length<=i
 | 0=>bG _
 | i+1=>by
  rw[qN]; unfold oO;have ih:=Gn val i;split
  ·omega
  ·rw[dh,List.length_singleton]; omega
theorem Mz (l:List Str) (v k:Str):(oO l v).any (· == k)=(l.any (· == k) || decide (k=v)):=by
 unfold oO;by_cases h:l.any (· == v)=true
 ·rw[a_ h];by_cases e:k=v
  ·subst e; rw[h]; simp
  ·simp[e]
 ·rw[aV h,List.any_append];by_cases e:k=v
  ·subst e; simp
  ·have hb:(v==k)=false:=by simpa[beq_iff_eq] using(fun h':v=k=>e h'.symm)
   simp[hb,e]
theorem Cp (l:List Str) (v:Str):(oO l v).length=if l.any (· == v) then l.length else l.length+1:=by
 unfold oO; split <;> simp
section
variable {prog:Program} {w:World} {A:Around} {R:Result->Shared->Prop} {I:Addr} {fp wr:List Addr} {G:Array GenState->Array GenState->Prop} {n:Nat} {P:Nat->Value->Prop} {St:Nat->Shared->Prop}
theorem Hm (W:WalksS prog w A.in1 I fp wr G n P St) (S:Addr) (hSf:S∉fp)
  (val:Nat->Str) (hval:∀i v,P i v->∃t,v=.str (val i) t) (hb:n+1<scanBound) :
  ∀(k i:Nat) (s:Shared),n-i=k->i<=n->St i s ->
   s.heap.SetOf (strKind prog w) S (fun k'=>(j0 val i).any (· == k')) (j0 val i).length ->
   (∀s',Moved (S::wr) G s s'->s'.heap.SetOf (strKind prog w) S (fun k'=>(j0 val n).any (· == k')) (j0 val n).length->R (.ok (.ret .none)) s') ->
   codeAny (model prog w) A (.builtin "set.update.loop" ⟨[.ref S,.ref I],[]⟩) R s:=by
 have hSw:S∉wr:=fun h=>hSf (W.sub _ h);have hsub:∀b∈wr,b∈S::wr:=fun b hb=>n_ _ hb;intro k
 induction k with
 | zero=>
  intro i s hk hi hst hS hR;have hin:i=n:=by omega
  subst hin;refine codeAny_builtin PyProof.Rows.F.entry_set_update_loop ?_;rw[Around.under_plainId PyProof.Rows.F.plain_set_update_loop _];show wpAny _ A.in1 (pyNext (.ref I) >>= _) _ _ s;refine aP (W.done s _ _ hst fun s' hm=>?_);show wpAny _ A.in1 (ret Value.none) _ _ s';refine bW (hR s' (hm.mono hsub) ?_);obtain⟨o,es,ep,t,ho,rest⟩:=hS;exact⟨o,es,ep,t,hm.heap S _ hSw ho,rest⟩
 | succ k ih=>
  intro i s hk hi hst hS hR;have hlt:i<n:=by omega
  refine codeAny_builtin PyProof.Rows.F.entry_set_update_loop ?_;rw[Around.under_plainId PyProof.Rows.F.plain_set_update_loop _];show wpAny _ A.in1 (pyNext (.ref I) >>= _) _ _ s;refine aP (W.item i s _ _ hlt hst fun v s' hP hst' hm=>?_);obtain⟨t,rfl⟩:=hval i v hP
  have hS':s'.heap.SetOf (strKind prog w) S (fun k'=>(j0 val i).any (· == k')) (j0 val i).length:=by
   obtain⟨o,es,ep,tb,ho,rest⟩:=hS;exact⟨o,es,ep,tb,hm.heap S _ hSw ho,rest⟩
  show wpAny _ A.in1 (holding [Value.str (val i) t] (setAdd S (.str (val i) t)) >>= _) _ _ s';refine aP (mV ?_);unfold setAdd;refine mV ?_;refine aP ((strKind prog w).pyHash (k:=val i) (strKind_is _ _ _ _) ?_);have hroom:(j0 val i).length+1<scanBound:=by have:=Gn val i; omega
  refine wpAny_setAddHashed_of (knd:=strKind prog w) (s:={ s' with toks:=s'.toks+1 }) (strKind_is _ _ _ _) rfl hS' hroom fun h' hsb hS2=>?_
  have hSi:h'.SetOf (strKind prog w) S (fun k'=>(j0 val (i+1)).any (· == k')) (j0 val (i+1)).length:=
   SetOf_congr hS2 (fun k'=>by rw[qN,Mz]) (by rw[qN,Cp])
  refine bW ⟨plainId_quiet PyProof.Rows.F.plain_set_update_loop _,ih (i+1) _ (by omega) hlt (W.frame _ s' _ _ hst' (wX _) fun b hb o e=>?_) hSi fun s'' hm'' hS''=>?_⟩
  ·rw[hsb.2 b (fun h:b=S=>hSf (by rw[<- h]; exact hb))]; exact e
  ·refine hR s'' (Moved.trans W.gtrans ((hm.mono hsub).then_heap (wX _) fun b o hb e=>?_) hm'') hS'';rw[hsb.2 b (fun h:b=S=>hb (by rw[h]; exact nZ))]; exact e
end
theorem Fw:∀{ss:List Str} {us:List Value} {i:Nat} {v:Value},Vals (ss.map V.str) us->us[i]?=some v->∃t,v=.str (ss.getD i Str.empty) t
 | [],us,i,v,h,e=>by
  cases h;cases e
 | x::ss,us,i,v,h,e=>by
  cases h with
  | cons h1 h2=>
   cases i with
   | zero=>
    cases e;obtain⟨t,rfl⟩:=h1;exact⟨t,rfl⟩
   | succ i=>exact Fw (ss:=ss) h2 e
section
variable {prog:Program} {w:World} {A:Around} {E:Value->Shared->Prop} {s:Shared}
theorem J_ {l:Addr} {items:Array Value} {ss:List Str} {Q:Value->Shared->Prop}
  (hh:A.handled=none) (hl:s.heap.IsList l items) (hi:Vals (ss.map V.str) items.toList) (hb:items.size+1<scanBound)
  (h:∀(h':Heap) (tk:Nat),h'.SetOf (strKind prog w) s.heap.objs.size (fun k'=>(j0 (fun i=>ss.getD i Str.empty) items.size).any (· == k')) (j0 (fun i=>ss.getD i Str.empty) items.size).length ->
   (∀b o,b<s.heap.objs.size->s.heap.get? b=some o->h'.get? b=some o)->Q (.ref s.heap.objs.size) { s with heap:=h',toks:=tk }) :
  wpAny (model prog w) A (call (.type "set") [.ref l]) Q E s:=by
 obtain⟨c,tl,hmro⟩:=PySem.F.called_set.mro;have hmade:=PySem.F.called_set.made;have hsub:=PySem.F.called_set.sub;refine wpAny_call (codeAny_of_tree ?_);show wpAny _ _ (callAny (.type "set") _) _ _ _;refine bW ⟨Code.quiet_builtin _ (by decide +kernel),codeAny_builtin PySem.F.entry_type_call ?_⟩
 rw[Around.under_plain (weight_type_call_type "set" [.ref l] []) rfl];have h1:=PySem.F.called_set.notType;have h2:=PySem.F.called_set.canCreate;have hct:=PySem.F.typeCall_set_1 (.ref l)
 repeat (any_goals (first | assumption | wp_step))
 refine codeAny_mono (code_set_new_1 (.ref l) (E:=E) (Q₁:=fun obj s₁=>∃led:Bool,obj=.ref s.heap.objs.size/\s₁={ s with heap:=s.heap.push { cls:=.type "set",dict:=none,data:=.set #[] 0 (.fresh 0 0 led) } }) fun led=>⟨led,rfl,rfl⟩) fun r s₁ hr=>?_
 cases r with
 | error e=>exact hr
 | ok fl=>
  cases fl with
  | ret obj=>
   obtain⟨led,rfl,rfl⟩:=hr;have hS:(s.heap.push { cls:=.type "set",dict:=none,data:=.set #[] 0 (.fresh 0 0 led) }).get? s.heap.objs.size=some { cls:=.type "set",dict:=none,data:=.set #[] 0 (.fresh 0 0 led) }:=dN _ rfl;have hT:Shared.TypeIs { s with heap:=s.heap.push { cls:=.type "set",dict:=none,data:=.set #[] 0 (.fresh 0 0 led) } } (.ref s.heap.objs.size) "set" := ⟨_,hS,rfl⟩
   have hli:=PySem.F.called_set.init.lookup;have hbi:=PySem.F.called_set.init.bind (.ref s.heap.objs.size)
   repeat (any_goals (first | assumption | wp_step))
   refine codeAny_mono (codeAny_call_builtin (R:=wants (fun r s₂=>r=.none/\∃h' tk,s₂={ s with heap:=h',toks:=tk } /\
     h'.SetOf (strKind prog w) s.heap.objs.size (fun k'=>(j0 (fun i=>ss.getD i Str.empty) items.size).any (· == k')) (j0 (fun i=>ss.getD i Str.empty) items.size).length /\
     (∀b o,b<s.heap.objs.size->s.heap.get? b=some o->h'.get? b=some o)) E) PySem.F.called_set.init.plain PySem.F.entry_set_init (check_set_init_1 hT ?_)) fun r₂ s₂ hr₂=>?_
   ·obtain⟨ol,hol,hcl,nl,hdl⟩:=hl;obtain⟨ocls,odict,odata,oslots⟩:=ol;simp only at hcl hdl;subst hcl; subst hdl;have hol':(s.heap.push { cls:=.type "set",dict:=none,data:=.set #[] 0 (.fresh 0 0 led) }).get? l=some { cls:=.type "list",dict:=odict,data:=.seq items nl,slots:=oslots }:=e_ _ hol;have hsls:=PySem.F.sub_list_set;have hslf:=PySem.F.sub_list_frozenset;have hne:(Value.type "list" == Value.type "dict")=false:=by decide
    have hl1:(s.heap.push { cls:=.type "set",dict:=none,data:=.set #[] 0 (.fresh 0 0 led) }).IsList l items:=⟨_,hol',rfl,nl,rfl⟩;unfold Builtin.«set.__init__» noKeywords Builtin.Frozenset.updateFrom;generalize hPI:pyIter=PI
    wp_walk
    subst hPI;refine Dv hl1 ?_;refine aP (wpAny_runValue ?_);have hlS:l<s.heap.objs.size:=b8 hol;have hh3:A.in1.in1.in1.handled=none:=by simp[hh]
    have hneI:l≠(s.heap.push { cls:=.type "set",dict:=none,data:=.set #[] 0 (.fresh 0 0 led) }).objs.size:=by
     rw[gY]; exact dM (Bb hlS)
    have hSf:s.heap.objs.size∉[(s.heap.push { cls:=.type "set",dict:=none,data:=.set #[] 0 (.fresh 0 0 led) }).objs.size,l]:=by
     rw[gY]; simp only[d_,gF,cW,or_false,not_or];exact⟨dM (A_ _),Aw hlS⟩
    have hval:∀(i:Nat) (v:Value),items[i]?=some v->∃t,v=.str ((fun i=>ss.getD i Str.empty) i) t:=fun i v hv=>Fw hi (by rw[Array.getElem?_toList]; exact hv)
    refine Hm ((Walks.list hh3 _ l hneI items).toS) s.heap.objs.size
     hSf (fun i=>ss.getD i Str.empty) hval hb (items.size-0) 0 _ (by omega) (iY _)
     ⟨⟨_,dN _ rfl,rfl,rfl⟩,(hl1.push _)⟩ ?hS0 ?hR
    case hS0=>
     have hget:((s.heap.push { cls:=.type "set",dict:=none,data:=.set #[] 0 (.fresh 0 0 led) }).push { cls:=.type "list_iterator",data:=.fields #[.ref l,.int 0 0] }).get? s.heap.objs.size
       = some { cls:=.type "set",dict:=none,data:=.set #[] 0 (.fresh 0 0 led) }:=e_ _ hS
     exact PyProof.Rows.SetOf_congr ((PyProof.Rows.setObjOf_fresh (knd:=strKind prog w) led).setOf hget (by unfold scanBound; omega)) (fun _=>rfl) rfl
    case hR=>
     intro s' hm hS';obtain⟨h',g',d',tk',os'⟩:=s';have eg:g'=s.gens:=hm.gens;have ed:d'=s.drawn:=hm.drawn;have eo:os'=s.os:=hm.os;subst eg; subst ed; subst eo;show wpAny _ _ _ _ _ _;refine bW ?_;show wpAny _ _ (ret Value.none) _ _ _;refine bW ⟨rfl,h',tk',rfl,hS',fun b o hb e=>?_⟩;have hb1:b≠s.heap.objs.size:=dM hb
     have hb2:b≠(s.heap.push { cls:=.type "set",dict:=none,data:=.set #[] 0 (.fresh 0 0 led) }).objs.size:=by
      rw[gY]; exact dM (Bb hb)
     exact hm.heap b o (by simp only[d_,gF,cW,or_false,not_or]; exact⟨hb1,hb2⟩) (e_ _ (e_ _ e))
   ·cases r₂ with
    | error e=>exact hr₂
    | ok fl₂=>
     cases fl₂ with
     | ret r=>
      obtain⟨rfl,h',tk,rfl,hS',hk'⟩:=hr₂
      repeat (any_goals (first | assumption | wp_step))
      exact h _ _ hS' hk'
     | _=>exact hr₂.elim
  | _=>exact hr.elim
end
def Ut (a:Addr) (n:Nat):HO:=.ext fun h=>∃o es ep t,h.get? a=some o/\o.ExactSet/\o.data=.set es ep t/\t.fits es.size=true/\es.size=n
def oK (ss:List Str):Nat:=(j0 (fun i=>ss.getD i Str.empty) ss.length).length
theorem xM {X:Cx} (hc:X.calm=true):du X (.type "set") (fun vs H Q=>∃(l:Addr) (ss:List Str),vs=[.ref l]/\H l=some (.lst (ss.map V.str))/\ss.length<=1000/\∀p H',H p=none->aL H H'->H' p=some (Ut p (oK ss))->Q (.ref p) H'):=by
 refine .mk ?_;intro pins s σ H vs us Q I r h;obtain⟨l,ss,rfl,hl,hz,q⟩:=h;obtain⟨u,rfl,ru⟩:=r.one;cases ru;obtain⟨_,its,n,rv,e⟩:=I.hok l _ hl;have hn:=rv.length;rw[cT] at hn;refine J_ (ss:=ss) (items:=its.toArray) (I.ok.hd hc) ⟨_,e,rfl,_,rfl⟩ (by simpa using rv) (by rw[eG,<- hn]; unfold scanBound; omega) fun h' tk hS hk=>?_
 have hf:=I.hok.fresh (bG s.heap.objs.size);have hsz:its.toArray.size=ss.length:=by rw[eG,<- hn]
 rw[hsz] at hS;refine⟨.ref s.heap.objs.size,_,I.laid (a:=s.heap.objs.size) (o:=Ut s.heap.objs.size (oK ss)) (t':=tk) (fun b o q=>hk b o (b8 q) q) (bG _) ?_,rfl,q _ _ hf (aN hf _) aA⟩;obtain⟨o,es,ep,t,h1,h2,h3,h4,h5,h6,h7,h8⟩:=hS;refine⟨⟨o,es,ep,t,h1,h2,h3,h7,h8⟩,⟨o,h1⟩,fun g1 g2 z k=>?_⟩;obtain⟨o',es',ep',t',a1,a2⟩:=z;exact⟨o',es',ep',t',k _ a1,a2⟩
theorem xO {X:Cx}:du X (.builtin "len") (fun vs H Q=>∃(p:Addr) (n:Nat),vs=[.ref p]/\H p=some (Ut p n)/\n<=1000/\Q (.int n) H):=by
 refine .mk ?_;intro pins s σ H vs us Q I r h;obtain⟨p,n,rfl,hp,hn,q⟩:=h;obtain⟨u,rfl,ru⟩:=r.one;cases ru;obtain⟨o,es,ep,t,h1,h2,h3,h4,h5⟩:=(show ∃o es ep t,s.heap.get? p=some o/\o.ExactSet/\o.data=.set es ep t/\t.fits es.size=true/\es.size=n from(I.hok p _ hp).1);refine call_len_set h1 h2 h3 h4 (by rw[h5]; omega) ?_
 rw[h5];exact⟨.int n,H,I.tok _,⟨_,rfl⟩,q⟩
theorem xF:∀(l acc:List Str),(l.foldl oO acc).length<=acc.length+l.length/\((l.foldl oO acc).length=acc.length+l.length↔l.Nodup/\∀x∈l,x∉acc)
 | [],acc=>⟨bG _,⟨fun _=>⟨List.nodup_nil,fun x h=>by cases h⟩,fun _=>rfl⟩⟩
 | y::l,acc=>by
  obtain⟨h1,h2⟩:=xF l (oO acc y);have e:((y::l).foldl oO acc)=l.foldl oO (oO acc y):=rfl;rw[e,ju];have hl:=Cp acc y;by_cases c:acc.any (· == y)=true
  ·rw[a_ c] at hl
   have hy:y∈acc:=by
    obtain⟨z,hz,ez⟩:=List.any_eq_true.mp c;rw[<- beq_iff_eq.mp ez]; exact hz
   refine⟨by omega,⟨fun z=>by omega,fun z=>absurd hy (z.2 y nZ)⟩⟩
  ·rw[aV c] at hl;have hy:y∉acc:=fun h=>c (List.any_eq_true.mpr ⟨y,h,beq_self_eq_true y⟩);have ea:oO acc y=acc++[y]:=aV c;refine⟨by omega,⟨fun z=>?_,fun z=>?_⟩⟩
   ·obtain⟨n1,n2⟩:=h2.mp (by omega)
    rw[ea] at n2;refine⟨jL.mpr ⟨fun hm=>n2 y hm (by simp),n1⟩,fun x hx=>?_⟩
    rcases d_.mp hx with w | w
    ·rw[w]; exact hy
    ·exact fun hm=>n2 x w (by simp[hm])
   ·obtain⟨n1,n2⟩:=z;obtain⟨m1,m2⟩:=jL.mp n1
    have:=h2.mpr ⟨m2,fun x hx=>by
     rw[ea];intro hm;rcases fC.mp hm with w | w
     ·exact n2 x (n_ _ hx) w
     ·rw[gF.mp w] at hx; exact m1 hx⟩
    omega
theorem mL (ss:List Str):oK ss<=ss.length/\(oK ss<ss.length↔¬ss.Nodup):=by
 have e:(List.range ss.length).map (fun i=>ss.getD i Str.empty)=ss:=by
  apply List.ext_getElem
  ·simp
  ·intro i h1 h2;simp[nQ,h2]
 have d:oK ss=(ss.foldl oO []).length:=by unfold oK j0; rw[e]
 obtain⟨h1,h2⟩:=xF ss [];rw[<- d] at h1 h2;simp only[vO,Nat.zero_add] at h1 h2;refine⟨h1,⟨fun z n=>?_,fun z=>?_⟩⟩
 ·have:=h2.mpr ⟨n,fun x _=>by simp⟩; omega
 ·rcases Nat.lt_or_ge (oK ss) ss.length with w | w
  ·exact w
  ·exact absurd (h2.mp (by omega)).1 z
section
variable {prog:Program} {w:World} {A:Around} {E:Value->Shared->Prop} {s:Shared}
end
structure Zc (H:Hp) (xs:List V) (kvs:List (PyData×V)):Prop where
 n:xs.length=kvs.length
 p:∀(i:Nat) (x:V) (q:PyData×V),xs[i]?=some x->kvs[i]?=some q->∃t y,x=.ref t/\H t=some (.tup [y,q.2])/\X5 H q.1 y
theorem my:plainId "dict.update.loop" = true:=by decide +kernel
theorem wK:entryFor table "dict.update.loop" = some Builtin.«dict.update.loop»:=entryFor_of_tree (by kernel_rfl)
section
variable {X:Cx} {pins:List (Addr×Obj)} {σ:St}
end
section
variable {X:Cx}
end
theorem m7:typeLookup (.type "zip") "__getattr__" = pure none:=by rw[typeLookup_type,builtinLookup_eq_fast]; kernel_rfl
theorem iZ:entryFor table "zip.__getattribute__" = some Builtin.«object.__getattribute__»:=
 entryFor_alias (id':="object.__getattribute__") (by kernel_rfl) (by decide +kernel) (by decide +kernel) (by kernel_rfl)
theorem Lj:typeLookup (.type "zip") "keys" = pure none:=by rw[typeLookup_type,builtinLookup_eq_fast]; kernel_rfl
theorem g_ (a:Addr) (xs:Array Value) (sl:Array (Option Value)) (name:Str) (u:Tok) (hmiss:typeLookup (.type "zip") name=pure none) (hname:(["__module__","__name__","__qualname__","__doc__","__annotations__"]:List Str).contains name=false) (hsz:name.length+100<=sizeLine:=by size_fits) :
  Meets (Builtin.«object.__getattribute__» ⟨[.ref a,.str name u],[]⟩) (fun A R s=>s.heap.get? a=some { cls:=.type "zip",dict:=none,data:=.fields xs,slots:=sl }/\raisesAttr (.ref a) name A R s):=
 Meets.of_wp fun prog w A R s hs=>by
  obtain⟨hp,g,d,tk,os⟩:=s;obtain⟨hx,hs⟩:=hs;have hT:(⟨hp,g,d,tk,os⟩:Shared).TypeIs (.ref a) "zip" := ⟨_,hx,rfl⟩;unfold Builtin.«object.__getattribute__»
  repeat (any_goals (first | assumption | wp_step))
  simp only[hname,Dy,if_false]
  repeat (any_goals (first | assumption | wp_step))
  exact wpAny_raiseAttrError hs.1 hs.2 (attrMsg_fits (by decide +kernel) hsz)
section
variable {prog:Program} {w:World} {A:Around} {E:Value->Shared->Prop} {s:Shared}
theorem Eg {a:Addr} {xs:Array Value} {sl:Array (Option Value)} {Q:Option Value->Shared->Prop} (hx:s.heap.get? a=some { cls:=.type "zip",dict:=none,data:=.fields xs,slots:=sl }) (hA:A.handled=none)
  (h:∀h' tk,(∀b o,s.heap.get? b=some o->h'.get? b=some o)->Q none { s with heap:=h',toks:=tk }):wpAny (model prog w) A (getAttr? (.ref a) "keys") Q E s:=by
 obtain⟨hp,g,d,tk,os⟩:=s;have hT:∀tk',(⟨hp,g,d,tk',os⟩:Shared).TypeIs (.ref a) "zip" := fun _=>⟨_,hx,rfl⟩;have f1:=sub_AttributeError;have f3:=F.slot_zip_getattribute.lookup;have f4:=F.slot_zip_getattribute.bind (.ref a);have f5:=m7;unfold getAttr? getAttrBy? getAttrBy
 repeat (any_goals (first | assumption | exact hT _ | ((with_reducible show wpAny _ _ (call (Value.builtin "zip.__getattribute__") _ _) _ _ _); refine call_meets F.slot_zip_getattribute (hT _) iZ (F.args_zip_getattribute_2 _ _) (g_ a xs sl "keys" _ Lj (by decide +kernel)) ⟨hx,hA,fun h' tk' e hx'=>?_⟩) | wp_step))
 obtain⟨t',u',he⟩:=hx'.there;show wpAny _ _ (getattributeRaised _ _ _ _ _ _ _) _ _ _;unfold getattributeRaised
 repeat (any_goals (first | assumption | wp_step))
 exact h _ _ fun b o e=>hx'.keeps b o e
end
abbrev wI (h:Heap) (z TI TO t:Addr) (b:Bool):Prop:=
 h.get? z=some { cls:=.type "zip",dict:=none,data:=.fields #[rawInt t,.bool b,.bool false,.ref TI,.ref TO],slots:=#[] }
section
variable {prog:Program} {w:World} {A:Around} {E:Value->Shared->Prop} {s:Shared}
theorem Fg {z TI TO t:Addr} {b:Bool} {Q:Bool->Shared->Prop} (hz:wI s.heap z TI TO t b) (ht:∃o,s.heap.get? t=some o) (q:∀h',wI h' z TI TO t true->Heap.SameBut z s.heap h'->Q false { s with heap:=h' }) :
  wpAny (model prog w) A (Builtin.SmallTypes.ownedTupleIsFree (.ref z)) Q E s:=by
 obtain⟨o,ho⟩:=ht;unfold Builtin.SmallTypes.ownedTupleIsFree;refine aP (jJ hz rfl (x:=rawInt t) rfl ?_);show wpAny _ _ (loadIfAlive ((t:Int).toNat) >>= _) _ _ _;rw[vP];refine aP (PySem.W.kdx_alive ho ?_);simp only[Option.isNone_some,Dy,if_false];refine aP (jJ hz rfl (x:=.bool b) rfl ?_);cases b with
 | true=>
  rw[aV (by decide)]
  exact bW (q s.heap hz (Heap.SameBut.refl _ _))
 | false=>
  rw[a_ (by decide)]
  refine aP (Dz hz (by simp) fun hA zA sA=>?_)
  exact bW (q hA zA sA)
structure Vj (z i1 i2:Addr) (f1 f2:List Addr):Prop where
 a4:i1≠z
 a5:i2≠z
 b1:z∉f1
 b2:z∉f2
 b5:i1∉f2
 b6:i2∉f1
theorem Nj {z TI TO t i1 i2:Addr} {f1 f2:List Addr} {n1 n2 k:Nat} {P1 P2:Nat->Value->Prop} {S1 S2:Nat->Heap->Prop} {b:Bool} {Q:Value->Shared->Prop} (Z:Vj z i1 i2 f1 f2) (D1:Draws prog w A i1 f1 n1 P1 S1) (D2:Draws prog w A i2 f2 n2 P2 S2)
  (hz:wI s.heap z TI TO t b) (ht:∃o,s.heap.get? t=some o) (hi:IsPair s.heap TI (.ref i1) (.ref i2)) (s1:S1 k s.heap) (s2:S2 k s.heap) (k1:k<n1) (k2:k<n2)
  (q:∀x y h' tk,P1 k x->P2 k y->wI h' z TI TO t true->S1 (k+1) h'->S2 (k+1) h'->IsPair h' s.heap.objs.size x y->(∀c o,c≠z->c≠i1->c≠i2->s.heap.get? c=some o->h'.get? c=some o)->Q (.ref s.heap.objs.size) { s with heap:=h',toks:=tk }) :
  wpAny (model prog w) A (Builtin.«zip.__next__» ⟨[.ref z],[]⟩) (fun fin s'=>∃v,fin=.done (.ret v)/\Q v s') E s:=by
 show wpAny _ _ (field (.ref z) 2 >>= _) _ _ _; refine aP (jJ hz rfl (x:=.bool false) rfl ?_);show wpAny _ _ (field (.ref z) 3 >>= _) _ _ _; refine aP (jJ hz rfl (x:=.ref TI) rfl (aP (rO hi rfl ?_)));show wpAny _ _ (Builtin.SmallTypes.ownedTupleIsFree (.ref z) >>= _) _ _ _;refine aP (Fg hz ht fun hA zA sA=>?_);simp only[Dy,if_false];refine aP ?_;rw[<- Array.forIn_toList];simp only[Ay,Bf];refine aP (aP (mV ?_)); show wpAny _ _ (Builtin.SmallTypes.nextOf (.ref i1) >>= _) _ _ _;refine aP (D1.item k _ _ _ k1 (D1.frame _ _ _ s1 (z_ sA Z.b1)) fun x hB tB pB Yl sB=>bW ?_);have uB:S2 k hB:=D2.frame _ _ _ (D2.frame _ _ _ s2 (z_ sA Z.b2)) (z_ sB Z.b5);refine bW (aP (aP (mV ?_))); show wpAny _ _ (Builtin.SmallTypes.nextOf (.ref i2) >>= _) _ _ _;refine aP (D2.item k _ _ _ k2 uB fun y hD tD pD std sD=>bW ?_);refine bW (bW (aP (wpAny_newTuple (hsz:=pH (aW (by decide:2<=1000))) ?_)))
 have zD:wI hD z TI TO t true:=sD.extBut _ _ Z.a5.symm (sB.extBut _ _ Z.a4.symm zA);have size:hD.objs.size=s.heap.objs.size:=by rw[sD.1,sB.1,sA.1]
 have up:∀c o,hD.get? c=some o->(hD.push { cls:=.type "tuple",data:=.seq #[x,y] }).get? c=some o:=fun c o e=>e_ _ e;have kB:∀c o,c≠z->c≠i1->c≠i2->s.heap.get? c=some o->hD.get? c=some o:=fun c o n1 n3 n4 e=>sD.extBut _ _ n4 (sB.extBut _ _ n3 (sA.extBut _ _ n1 e));have u1:S1 (k+1) hD:=D1.frame _ _ _ Yl (z_ sD Z.b6);have tJ:(hD.push { cls:=.type "tuple",data:=.seq #[x,y] }).get? hD.objs.size=some { cls:=.type "tuple",data:=.seq #[x,y] }:=dN _ rfl;refine bW ⟨_,rfl,?_⟩;show Q (.ref hD.objs.size) _;rw[size] at tJ ⊢;exact q x y _ tD pB pD (up _ _ zD) (D1.frame _ _ _ u1 fun c hc o e=>up c o e) (D2.frame _ _ _ std fun c hc o e=>up c o e) tJ fun c o n1 n3 n4 e=>up c o (kB c o n1 n3 n4 e)
theorem JG {z TI TO t i1 i2:Addr} {f1 f2:List Addr} {n1 n2:Nat} {P1 P2:Nat->Value->Prop} {S1 S2:Nat->Heap->Prop} {b:Bool} {Q:Fin->Shared->Prop} (Z:Vj z i1 i2 f1 f2) (D1:Draws prog w A i1 f1 n1 P1 S1) (D2:Draws prog w A i2 f2 n2 P2 S2)
  (hz:wI s.heap z TI TO t b) (ht:∃o,s.heap.get? t=some o) (hi:IsPair s.heap TI (.ref i1) (.ref i2)) (s1:S1 n1 s.heap)
  (q:∀h' e,(∀c o,c≠z->c≠i1->c≠i2->s.heap.get? c=some o->h'.get? c=some o)->(∃o,h'.get? e=some o/\o.cls=.type "StopIteration")->∀tk,E (.ref e) { s with heap:=h',toks:=tk }) :
  wpAny (model prog w) A (Builtin.«zip.__next__» ⟨[.ref z],[]⟩) Q E s:=by
 show wpAny _ _ (field (.ref z) 2 >>= _) _ _ _; refine aP (jJ hz rfl (x:=.bool false) rfl ?_);show wpAny _ _ (field (.ref z) 3 >>= _) _ _ _; refine aP (jJ hz rfl (x:=.ref TI) rfl (aP (rO hi rfl ?_)));show wpAny _ _ (Builtin.SmallTypes.ownedTupleIsFree (.ref z) >>= _) _ _ _;refine aP (Fg hz ht fun hA zA sA=>?_);simp only[Dy,if_false];refine aP ?_;rw[<- Array.forIn_toList];simp only[Ay,Bf];refine aP (aP (mV ?_)); show wpAny _ _ (Builtin.SmallTypes.nextOf (.ref i1) >>= _) _ _ _;refine aP (D1.done _ _ _ (D1.frame _ _ _ s1 (z_ sA Z.b1)) fun hB x sB hx=>?_);exact q hB x (fun c o m1 m3 _ e=>sB _ _ m3 (sA.extBut _ _ m1 e)) hx _
theorem VG {z TI TO t i1 i2:Addr} {f1 f2:List Addr} {n1 n2 k:Nat} {P1 P2:Nat->Value->Prop} {S1 S2:Nat->Heap->Prop} {b:Bool} {Q:Option Value->Shared->Prop} (Z:Vj z i1 i2 f1 f2) (D1:Draws prog w A.in1 i1 f1 n1 P1 S1) (D2:Draws prog w A.in1 i2 f2 n2 P2 S2)
  (hz:wI s.heap z TI TO t b) (ht:∃o,s.heap.get? t=some o) (hi:IsPair s.heap TI (.ref i1) (.ref i2)) (s1:S1 k s.heap) (s2:S2 k s.heap) (k1:k<n1) (k2:k<n2)
  (q:∀x y h' tk,P1 k x->P2 k y->wI h' z TI TO t true->S1 (k+1) h'->S2 (k+1) h'->IsPair h' s.heap.objs.size x y->(∀c o,c≠z->c≠i1->c≠i2->s.heap.get? c=some o->h'.get? c=some o)->Q (some (.ref s.heap.objs.size)) { s with heap:=h',toks:=tk }) :
  wpAny (model prog w) A (pyNext (.ref z)) Q E s:=by
 have ty:s.TypeIs (.ref z) "zip" := ⟨_,hz,rfl⟩;unfold pyNext;refine aP (wpAny_attempt (Hy (name:=Str.ofString "__next__") ty F.slot_zip_next (Ba F.slot_zip_next ty F.entry_zip_next ?_ (F.args_zip_next_1 _))));exact Nj Z D1 D2 hz ht hi s1 s2 k1 k2 fun x y h' tk p1 p2 v1 v2 v3 v4 v5=>bW (q x y h' tk p1 p2 v1 v2 v3 v4 v5)
theorem Rp {z TI TO t i1 i2:Addr} {f1 f2:List Addr} {n1 n2:Nat} {P1 P2:Nat->Value->Prop} {S1 S2:Nat->Heap->Prop} {b:Bool} {Q:Option Value->Shared->Prop} (Z:Vj z i1 i2 f1 f2) (D1:Draws prog w A.in1 i1 f1 n1 P1 S1) (D2:Draws prog w A.in1 i2 f2 n2 P2 S2)
  (hz:wI s.heap z TI TO t b) (ht:∃o,s.heap.get? t=some o) (hi:IsPair s.heap TI (.ref i1) (.ref i2)) (s1:S1 n1 s.heap)
  (q:∀h' tk,(∀c o,c≠z->c≠i1->c≠i2->s.heap.get? c=some o->h'.get? c=some o)->Q none { s with heap:=h',toks:=tk }):wpAny (model prog w) A (pyNext (.ref z)) Q E s:=by
 have ty:s.TypeIs (.ref z) "zip" := ⟨_,hz,rfl⟩;unfold pyNext;refine aP (wpAny_attempt (Hy (name:=Str.ofString "__next__") ty F.slot_zip_next (Ba F.slot_zip_next ty F.entry_zip_next ?_ (F.args_zip_next_1 _))));refine JG Z D1 D2 hz ht hi s1 fun h' e k hx tk=>?_;obtain⟨o,g,c⟩:=hx;exact aP (wpAny_isInstance (T:="StopIteration") (b:=true) ⟨o,g,c⟩ isSubtype_stop (bW (q _ tk k)))
end
def iG (acc:List (Key×V)) (kvs:List (Key×V)):List (Key×V):=kvs.foldl (fun a p=>putK a p.1 p.2) acc
structure ZS (z TI TO i1 i2 a b:Addr) (i:Nat) (h:Heap):Prop where
 st:(IsZip h z TI TO .none/\∃x y,IsPair h TO x y)\/∃t fl,wI h z TI TO t fl/\(∃o,h.get? t=some o)/\t≠z/\t≠i1/\t≠i2
 p:IsPair h TI (.ref i1) (.ref i2)
 l:h.IsListIter i1 a i
 r:h.IsListIter i2 b i
structure Zn (z TI TO i1 i2:Addr):Prop where
 n1:TI≠z
 n2:TO≠z
 n3:TI≠TO
 n4:i1≠z
 n5:i2≠z
 n6:TO≠i1
 n7:TO≠i2
 n8:i1≠i2
 n9:TI≠i1
 n10:TI≠i2
section
variable {X:Cx} {pins:List (Addr×Obj)} {σ:St} {z TI TO i1 i2 a b:Addr}
theorem ZS.keep {i:Nat} {h h':Heap} (S:ZS z TI TO i1 i2 a b i h) (k:∀c o,h.get? c=some o->h'.get? c=some o):ZS z TI TO i1 i2 a b i h':=by
 obtain⟨st,p,l,r⟩:=S;refine⟨?_,k _ _ p,l.at fun o e=>k _ _ e,r.at fun o e=>k _ _ e⟩;rcases st with⟨g,x,y,e⟩ | ⟨t,fl,g,⟨o,e⟩,n⟩
 ·exact .inl ⟨k _ _ g,x,y,k _ _ e⟩
 ·exact .inr ⟨t,fl,k _ _ g,⟨o,k _ _ e⟩,n⟩
theorem M9 {H:Hp} {s:Shared} {A:Around} {E:Value->Shared->Prop} {xs ys:List V} {i:Nat} {x y:V} {Q:Option Value->Shared->Prop} (N:Zn z TI TO i1 i2) (I:Inv X pins σ H s) (hh:A.handled=none) (ha:H a=some (.lst xs)) (hb:H b=some (.lst ys)) (S:ZS z TI TO i1 i2 a b i s.heap)
  (hf:∀c∈[z,TI,TO,i1,i2],fK X pins H c) (hx:xs[i]?=some x) (hy:ys[i]?=some y)
  (q:∀t u v s1,RelV x u->RelV y v->Inv X pins σ H s1->IsPair s1.heap t u v->ZS z TI TO i1 i2 a b (i+1) s1.heap->Q (some (.ref t)) s1):wpAny (model X.prog X.w) A (pyNext (.ref z)) Q E s:=by
 obtain⟨us,ru,pu⟩:=kL.inv I (cV.of ha);obtain⟨vs,rv,pv⟩:=kL.inv I (cV.of hb);obtain⟨u,hu,ru'⟩:=ru.get hx;obtain⟨v,hv,rv'⟩:=rv.get hy;have na:∀c∈[z,TI,TO,i1,i2],a≠c:=fun c hc=>kL.ne I (cV.of ha) (hf c hc);have nb:∀c∈[z,TI,TO,i1,i2],b≠c:=fun c hc=>kL.ne I (cV.of hb) (hf c hc);have hh1:A.in1.handled=none:=hh;have l1:i<us.toArray.size:=by have:=(eN.mp hu).1; simpa using this
 have l2:i<vs.toArray.size:=by have:=(eN.mp hv).1; simpa using this
 have eu:∀{u':Value},us.toArray[i]?=some u'->u'=u:=fun {u'} hu'=>by
  have:us[i]?=some u':=by simpa using hu'
  rw[hu] at this; exact(Option.some.inj this).symm
 have ev:∀{u':Value},vs.toArray[i]?=some u'->u'=v:=fun {u'} hu'=>by
  have:vs[i]?=some u':=by simpa using hu'
  rw[hv] at this; exact(Option.some.inj this).symm
 obtain⟨st,p,l,r⟩:=S;have fk:∀c∈[z,TO,i1,i2],fK X pins H c:=fun c hc=>hf c (by simp only[d_,cW,or_false] at hc ⊢; rcases hc with h | h | h | h <;> simp[h])
 rcases st with⟨g,xo,yo,e⟩ | ⟨t,fl,g,e,nt⟩
 ·have Z:Vk z TI TO i1 i2 [i1,a] [i2,b]:=⟨N.n1,N.n2,N.n3,N.n4,N.n5,N.n6,N.n7,N.n8,by simp; exact⟨N.n4.symm,(na z (by simp)).symm⟩,by simp; exact⟨N.n5.symm,(nb z (by simp)).symm⟩,by simp; exact⟨N.n6,(na TO (by simp)).symm⟩,by simp; exact⟨N.n7,(nb TO (by simp)).symm⟩,by simp; exact⟨N.n8,(nb i1 (by simp)).symm⟩,by simp; exact⟨N.n8.symm,(na i2 (by simp)).symm⟩⟩
  have lz:z<s.heap.objs.size:=b8 g;have li1:i1<s.heap.objs.size:=by obtain⟨o,e,_⟩:=l; exact b8 e
  have li2:i2<s.heap.objs.size:=by obtain⟨o,e,_⟩:=r; exact b8 e
  refine Rj Z (kL.dr hh1 (na i1 (by simp)) us.toArray) (kL.dr hh1 (nb i2 (by simp)) vs.toArray) g p e (show _/\_ from⟨l,pu⟩) (show _/\_ from⟨r,pv⟩) l1 l2 fun u' v' h' tk hu' hv' z1 z2 z3 z4 z5 z6 kk=>?_
  cases eu hu';cases ev hv';have I1:Inv X pins σ H { s with heap:=h',toks:=tk }:=I.sU (fp:=[z,TO,i1,i2]) (fun c o hc q=>kk c o (fun w=>hc (by simp[w])) (fun w=>hc (by simp[w])) (fun w=>hc (by simp[w])) (fun w=>hc (by simp[w])) q) fk
  exact q _ _ _ _ ru' rv' I1 z5 ⟨.inr ⟨_,false,z1,⟨_,z5⟩,Aw lz,Aw li1,Aw li2⟩,kk _ _ N.n1 N.n3 N.n9 N.n10 p,z3.1,z4.1⟩
 ·have Z:Vj z i1 i2 [i1,a] [i2,b]:=⟨N.n4,N.n5,by simp; exact⟨N.n4.symm,(na z (by simp)).symm⟩,by simp; exact⟨N.n5.symm,(nb z (by simp)).symm⟩,by simp; exact⟨N.n8,(nb i1 (by simp)).symm⟩,by simp; exact⟨N.n8.symm,(na i2 (by simp)).symm⟩⟩
  refine VG Z (kL.dr hh1 (na i1 (by simp)) us.toArray) (kL.dr hh1 (nb i2 (by simp)) vs.toArray) g e p (show _/\_ from⟨l,pu⟩) (show _/\_ from⟨r,pv⟩) l1 l2 fun u' v' h' tk hu' hv' z1 z3 z4 z5 kk=>?_
  cases eu hu';cases ev hv';have I1:Inv X pins σ H { s with heap:=h',toks:=tk }:=I.sU (fp:=[z,TO,i1,i2]) (fun c o hc q=>kk c o (fun w=>hc (by simp[w])) (fun w=>hc (by simp[w])) (fun w=>hc (by simp[w])) q) fk
  obtain⟨ot,et⟩:=e;exact q _ _ _ _ ru' rv' I1 z5 ⟨.inr ⟨t,true,z1,⟨ot,kk _ _ nt.1 nt.2.1 nt.2.2 et⟩,nt⟩,kk _ _ N.n1 N.n9 N.n10 p,z3.1,z4.1⟩
theorem M_ {H:Hp} {s:Shared} {A:Around} {E:Value->Shared->Prop} {xs ys:List V} {Q:Option Value->Shared->Prop} (N:Zn z TI TO i1 i2) (I:Inv X pins σ H s) (hh:A.handled=none) (ha:H a=some (.lst xs)) (hb:H b=some (.lst ys)) (S:ZS z TI TO i1 i2 a b xs.length s.heap)
  (hf:∀c∈[z,TI,TO,i1,i2],fK X pins H c)
  (q:∀s1,Inv X pins σ H s1->Q none s1):wpAny (model X.prog X.w) A (pyNext (.ref z)) Q E s:=by
 obtain⟨us,ru,pu⟩:=kL.inv I (cV.of ha);obtain⟨vs,rv,pv⟩:=kL.inv I (cV.of hb);have na:∀c∈[z,TI,TO,i1,i2],a≠c:=fun c hc=>kL.ne I (cV.of ha) (hf c hc);have nb:∀c∈[z,TI,TO,i1,i2],b≠c:=fun c hc=>kL.ne I (cV.of hb) (hf c hc);have hh1:A.in1.handled=none:=hh;have el:xs.length=us.toArray.size:=by rw[ru.length,eG]
 obtain⟨st,p,l,r⟩:=S;have fk:∀c∈[z,TO,i1,i2],fK X pins H c:=fun c hc=>hf c (by simp only[d_,cW,or_false] at hc ⊢; rcases hc with h | h | h | h <;> simp[h])
 rcases st with⟨g,xo,yo,e⟩ | ⟨t,fl,g,e,nt⟩
 ·have Z:Vk z TI TO i1 i2 [i1,a] [i2,b]:=⟨N.n1,N.n2,N.n3,N.n4,N.n5,N.n6,N.n7,N.n8,by simp; exact⟨N.n4.symm,(na z (by simp)).symm⟩,by simp; exact⟨N.n5.symm,(nb z (by simp)).symm⟩,by simp; exact⟨N.n6,(na TO (by simp)).symm⟩,by simp; exact⟨N.n7,(nb TO (by simp)).symm⟩,by simp; exact⟨N.n8,(nb i1 (by simp)).symm⟩,by simp; exact⟨N.n8.symm,(na i2 (by simp)).symm⟩⟩
  refine Nf Z (kL.dr hh1 (na i1 (by simp)) us.toArray) (kL.dr hh1 (nb i2 (by simp)) vs.toArray) g p e (show _/\_ from⟨l,pu⟩) (show _/\_ from⟨r,pv⟩) (.inl el) fun h' tk kk=>q _ ?_
  exact I.sU (fp:=[z,TO,i1,i2]) (fun c o hc q=>kk c o (fun w=>hc (by simp[w])) (fun w=>hc (by simp[w])) (fun w=>hc (by simp[w])) (fun w=>hc (by simp[w])) q) fk
 ·have Z:Vj z i1 i2 [i1,a] [i2,b]:=⟨N.n4,N.n5,by simp; exact⟨N.n4.symm,(na z (by simp)).symm⟩,by simp; exact⟨N.n5.symm,(nb z (by simp)).symm⟩,by simp; exact⟨N.n8,(nb i1 (by simp)).symm⟩,by simp; exact⟨N.n8.symm,(na i2 (by simp)).symm⟩⟩
  refine Rp Z (kL.dr hh1 (na i1 (by simp)) us.toArray) (kL.dr hh1 (nb i2 (by simp)) vs.toArray) g e p (show _/\_ from⟨by rw[<- el]; exact l,pu⟩) fun h' tk kk=>q _ ?_
  exact I.sU (fp:=[z,TO,i1,i2]) (fun c o hc q=>kk c o (fun w=>hc (by simp[w])) (fun w=>hc (by simp[w])) (fun w=>hc (by simp[w])) q) fk
end
section
variable {X:Cx} {pins:List (Addr×Obj)} {σ:St} {z TI TO i1 i2 a b p:Addr} {ks:List Key} {ys:List V}
theorem G9 (N:Zn z TI TO i1 i2) (hn:ks.length=ys.length) (hz:ks.length<=1000):∀(k i:Nat) (H:Hp) (s:Shared) (A:Around) (acc:List (Key×V)) (R:Result->Shared->Prop),ks.length-i=k->i<=ks.length->A.handled=none->Inv X pins σ H s->H p=some (.dK acc)->acc.length<=i ->
  H a=some (.lst (ks.map kV))->H b=some (.lst ys)->ZS z TI TO i1 i2 a b i s.heap->(∀c∈[z,TI,TO,i1,i2],fK X pins H c) ->
  (∀s',Inv X pins σ (upd H p (.dK (iG acc ((ks.zip ys).drop i)))) s'->R (.ok (.ret .none)) s') ->
  wpAny (model X.prog X.w) A.in1 (Builtin.«dict.update.loop» ⟨[.ref p,.ref z,rawInt i,.none],[]⟩) (fun fin s'=>match fin with | .done f=>R (.ok f) s' | .again c'=>c'.quiet=true/\codeAny (model X.prog X.w) A c' R s') (fun e s'=>R (.error e) s') s:=by
 intro k
 induction k with
 | zero=>
  intro i H s A acc R hk hi hh I hp hacc ha hb S fp q;have ei:i=ks.length:=by omega
  unfold Builtin.«dict.update.loop»;refine aP (M_ N I hh ha hb (by rw[cT,<- ei]; exact S) fp fun s1 I1=>?_)
  dsimp only;unfold Builtin.Dict.addKeywords
  wp_walk
  refine q s1 ?_;have e:(ks.zip ys).drop i=[]:=List.drop_eq_nil_of_le (by rw[Ds]; omega)
  rw[e]
  have eH:upd H p (.dK (iG acc []))=H:=by
   funext c
   by_cases w:c=p
   ·rw[w,aA,hp]; rfl
   ·rw[aJ w]
  rw[eH];exact I1
 | succ k ih=>
  intro i H s A acc R hk hi hh I hp hacc ha hb S fp q;have hik:i<ks.length:=by omega
  have hiy:i<ys.length:=by omega
  have hd:(ks.zip ys).drop i=(ks[i],ys[i])::(ks.zip ys).drop (i+1):=by
   rw[Hz (by rw[Ds]; omega),List.getElem_zip]
  unfold Builtin.«dict.update.loop»;refine aP (M9 N I hh ha hb S fp (x:=kV ks[i]) (y:=ys[i]) (by rw[dw,gG hik]; rfl) (gG hiy) fun t u v s1 ru rv I1 e1 S1=>?_)
  dsimp only;have hT:s1.TypeIs (.ref t) "tuple" := ⟨_,e1,rfl⟩;refine aP (mV ?_);unfold Builtin.Dict.pairItems;refine aP (Hu (aP (Be hT ?_)));rw[a_ (by decide)]
  refine aP (rO e1 rfl (bW ?_));obtain⟨zz,hsm,ws,rel,dd⟩:=GD I1.hok hp;have hz':ws.length<=sizeLine:=by rw[<- rel.length]; exact zz
  have hl:(putK acc ks[i] ys[i]).length<=sizeLine:=by have h1:=gK acc ks[i] ys[i]; have h2:=aW (n:=acc.length+1) (by omega); omega
  refine mV (wpAny_dictSet_pairs (hsz:=hz') (Bx ru) dd fun h2 dd2 hs=>?_);have he:∃q,h2.get? p=some q:=let ⟨q,_,_,hq,_⟩:=dd2; ⟨q,hq⟩;have I2:=pW (t':=s1.toks+1) I1 (by rw[hp]; exact True.intro) hs he (zE hl hsm (rel.put ks[i] rv) dd2)
  have npH:∀c,H c=none->c≠p:=fun c hc w=>by rw[w,hp] at hc; cases hc
  have nl:∀c zs,H c=some (.lst zs)->c≠p:=fun c zs hc w=>by rw[w,hp] at hc; cases hc
  refine bW ⟨plainId_quiet my _,codeAny_builtin wK ?_⟩;rw[Around.under_plainId my _];refine ih (i+1) _ _ A (putK acc ks[i] ys[i]) R (by omega) (by omega) hh I2 aA (by have:=gK acc ks[i] ys[i]; omega) (by rw[aJ (nl _ _ ha)]; exact ha) (by rw[aJ (nl _ _ hb)]; exact hb) ?_ (fun c hc=>⟨by rw[aJ (npH c (fp c hc).1)]; exact(fp c hc).1,(fp c hc).2⟩) fun s' J=>?_
  ·have kc:∀c o,c∈[z,TI,TO,i1,i2]->s1.heap.get? c=some o->h2.get? c=some o:=fun c o hc e=>(hs.2 c (npH c (fp c hc).1)).trans e;obtain⟨st,p',l,r⟩:=S1;refine⟨?_,kc _ _ (by simp) p',l.at fun o e=>kc _ _ (by simp) e,r.at fun o e=>kc _ _ (by simp) e⟩
   rcases st with⟨g,x,y,e⟩ | ⟨t',fl,g,⟨o,e⟩,n⟩
   ·exact .inl ⟨kc _ _ (by simp) g,x,y,kc _ _ (by simp) e⟩
   ·refine .inr ⟨t',fl,kc _ _ (by simp) g,?_,n⟩
    by_cases w:t'=p
    ·rw[w]; exact he
    ·exact⟨o,(hs.2 t' w).trans e⟩
  ·rw[hd] at q;refine q s' ?_;have eH:upd (upd H p (.dK (putK acc ks[i] ys[i]))) p (.dK (iG (putK acc ks[i] ys[i]) ((ks.zip ys).drop (i+1))))=upd H p (.dK (iG acc ((ks[i],ys[i])::(ks.zip ys).drop (i+1)))):=Fp;rw[<- eH];exact J
end
section
variable {X:Cx}
def Ai (ta:TA):TE:=fun σ H Q=>ta σ H fun vs H1=>∃(a b:Addr) (ks:List Key) (ys:List V),vs=[.ref a,.ref b]/\H1 a=some (.lst (ks.map kV))/\H1 b=some (.lst ys)/\ks.length=ys.length/\ks.length<=1000/\∀p H',H1 p=none->aL H1 H'->H' p=some (.dK (iG [] (ks.zip ys)))->Q (.ref p) H'
theorem DQ {e e':Expr} {p p2 pos pos2:Pos} {ta:TA} (hc:X.calm=true) (hm:X.mg "dict" = none) (hm2:X.mg "zip" = none) (ha:PA X [e,e'] ta) (hg:Gl X "dict" := by rfl) (hg2:Gl X "zip" := by rfl) (h1:b_ e=true:=by rfl) (h2:b_ e'=true:=by rfl)
  (h3:b_ (.Call (.Name "zip" p2) [e,e'] [] pos2)=true:=by rfl) :
  PE X (.Call (.Name "dict" p) [.Call (.Name "zip" p2) [e,e'] [] pos2] [] pos) (Ai ta):=by
 refine .mk ?_;intro pins s σ H Q I h;refine vR (jz I hg hm GZ ?_ (by decide) (by decide))
 refine PyProof.Rows.callWith_type1 ?_ (bZ h3) rfl;rw[bZ h3];show wpAny _ _ (spliced ((false,eval (.Call (.Name "zip" p2) [e,e'] [] pos2) X.env)::backTo pos (starEach [] X.env))) _ _ s;refine Calls.spliced_cons ?_;refine vR (jz I hg2 hm2 Uk ?_ (by decide) (by decide))
 refine PyProof.Rows.callWith_type1 (cz (ha pos2 pins s σ H _ I h) fun us s1 qx=>?_) (bZ h1) (cJ (es:=[e']) (by simp[h2]))
 obtain⟨vs,H1,I1,r1,a,b,ks,ys,rfl,hla,hlb,hn,hz,q⟩:=qx;obtain⟨u,v,rfl,ru,rv⟩:=r1.two;cases ru;cases rv;obtain⟨us,_,pu,_⟩:=I1.list (cV.of hla);obtain⟨ws,_,pw,_⟩:=I1.list (cV.of hlb);refine Jh pu.isList pw.isList fun h' Yv hp ho l1 l2 kk=>?_;have I2:Inv X pins σ H1 { s1 with heap:=h' }:=I1.kept (t':=s1.toks) kk
 have fr:∀n,H1 (s1.heap.objs.size+n)=none:=fun n=>I1.hok.fresh (Nat.le_add_right _ _);have fk:∀n,fK X pins H1 (s1.heap.objs.size+n):=fun n=>I1.vg (Nat.le_add_right _ _) (fr n);have ne:∀i j:Nat,i≠j->s1.heap.objs.size+i≠s1.heap.objs.size+j:=fun i j n e=>n (Nat.add_left_cancel e);have N:Zn (s1.heap.objs.size+4) (s1.heap.objs.size+2) (s1.heap.objs.size+3) s1.heap.objs.size (s1.heap.objs.size+1):=⟨ne _ _ (by decide),ne _ _ (by decide),ne _ _ (by decide),ne 0 _ (by decide),ne _ _ (by decide),ne _ 0 (by decide),ne _ _ (by decide),ne 0 _ (by decide),ne _ 0 (by decide),ne _ _ (by decide)⟩
 have S0:ZS (s1.heap.objs.size+4) (s1.heap.objs.size+2) (s1.heap.objs.size+3) s1.heap.objs.size (s1.heap.objs.size+1) a b 0 h':=⟨.inl ⟨Yv,_,_,ho⟩,hp,l1,l2⟩
 have fp:∀c∈[s1.heap.objs.size+4,s1.heap.objs.size+2,s1.heap.objs.size+3,s1.heap.objs.size,s1.heap.objs.size+1],fK X pins H1 c:=fun c hc=>by
  simp only[d_,cW,or_false] at hc;rcases hc with rfl | rfl | rfl | rfl | rfl
  ·exact fk 4
  ·exact fk 2
  ·exact fk 3
  ·exact fk 0
  ·exact fk 1
 clear fr fk ne l1 l2 hp ho;generalize s1.heap.objs.size+4=z at *;generalize s1.heap.objs.size+2=TI at *;generalize s1.heap.objs.size+3=TO at *;generalize s1.heap.objs.size+1=i2 at *;generalize s1.heap.objs.size=i1 at *;obtain⟨s2,hs2⟩:∃s2,({ s1 with heap:=h' }:Shared)=s2:=⟨_,rfl⟩
 have e2:h'=s2.heap:=by rw[<- hs2]
 rw[hs2] at I2 ⊢;rw[e2] at S0 Yv;refine Calls.spliced_nil ?_;have hh:X.A.handled=none:=I2.ok.hd hc;have hf:=I2.hok.fresh (bG s2.heap.objs.size);have I3:=I2.laid (a:=s2.heap.objs.size) (o:=.dK []) (t':=s2.toks) (fun _ _ q=>e_ _ q) (bG _) (BP s2.heap I2.big);have sm:=aN hf (.dK []);have hd3:upd H1 s2.heap.objs.size (.dK []) s2.heap.objs.size=some (.dK []):=aA;refine callType_codes (Q₁:=fun obj s₁=>obj=.ref s2.heap.objs.size/\s₁={ s2 with heap:=s2.heap.push { cls:=.type "dict",data:=.dict #[] } }) F.kt_called_dict (F.kt_typeCall_dict_1 _) F.entry_dict_init (kt_code_dict_new _ ⟨rfl,rfl⟩) ?_
 rintro obj s₁ ⟨rfl,rfl⟩;have hT:Shared.TypeIs { s2 with heap:=s2.heap.push { cls:=.type "dict",data:=.dict #[] } } (.ref s2.heap.objs.size) "dict" := ⟨_,dN _ rfl,rfl⟩
 refine⟨hT,F.args_dict_init_2 _ _,?_⟩;unfold Builtin.«dict.__init__»;refine aP ?_;unfold Builtin.Dict.selfAndRest;refine aP (wpAny_notOrdered_dict hT ?_);show wpAny _ _ (pure (s2.heap.objs.size,[Value.ref z])) _ _ _;refine bW ?_;show wpAny _ _ (Builtin.Dict.updateFrom "dict.__init__" s2.heap.objs.size (.ref z) [] .none) _ _ _;unfold Builtin.Dict.updateFrom;have ez:(s2.heap.push { cls:=.type "dict",data:=.dict #[] }).get? z=some _:=e_ _ Yv;refine aP (Be ⟨_,ez,rfl⟩ ?_);rw[a_ (by decide)]
 refine aP (Eg ez hh fun h4 tk k4=>?_);rw[a_ (by decide)]
 refine aP (Av ?_);have I4:=I3.kept (t':=tk) k4;have S4:=S0.keep (h':=h4) fun c o e=>k4 _ _ (e_ _ e)
 have fp4:∀c∈[z,TI,TO,i1,i2],fK X pins (upd H1 s2.heap.objs.size (.dK [])) c:=fun c hc=>by
  have lt:c<s2.heap.objs.size:=by
   obtain⟨st,p',l,r⟩:=S0;rcases st with⟨g,x,y,e⟩ | ⟨t',fl,g,⟨o,e⟩,n⟩
   ·simp only[d_,cW,or_false] at hc;rcases hc with rfl | rfl | rfl | rfl | rfl
    ·exact b8 g
    ·exact b8 p'
    ·exact b8 e
    ·obtain⟨o,e,_⟩:=l; exact b8 e
    ·obtain⟨o,e,_⟩:=r; exact b8 e
   ·have g':s2.heap.get? z=some _:=g;have h'':s2.heap.get? z=some _:=Yv;rw[h''] at g';exact absurd g' (by intro w; cases w)
  exact⟨by rw[aJ (dM lt)]; exact(fp c hc).1,(fp c hc).2⟩
 refine aP (wpAny_pyIter_zip (show IsZip h4 z TI TO .none from k4 _ _ ez) ?_);refine bW ⟨plainId_quiet my _,codeAny_builtin wK ?_⟩;rw[Around.under_plainId my _];refine G9 (p:=s2.heap.objs.size) (ks:=ks) (ys:=ys) N hn hz ks.length 0 _ _ X.A.in1 [] _ (by omega) (iY _) hh I4 aA (iY _) (sm _ _ hla) (sm _ _ hlb) S4 fp4 fun s' J=>?_
 rw[Fp] at J;exact⟨rfl,.ref s2.heap.objs.size,_,J,rfl,q _ _ hf (aN hf _) aA⟩
end
structure Fd (K:PySem.W.Frag) (x qual:Str) (st:Stmt) (f:Addr) (fd:FuncData) (T:Addr):Prop where
 ex:∃(oc:Value) (od:Option Addr) (kV doc pm:Value) (an:Option Addr) (cdv ct:Value) (osl:Array (Option Value)),
  fd=PySem.W.fnOf x qual (bN st) (bI st) (aC st) (.ref T) kV doc pm an cdv ct/\K.lookup f=some ⟨oc,od,.func fd,osl⟩/\PySem.W.codeIn K cdv qual=true
 kp:PySem.W.keepIn K (.ref f)=true
 df:∃o n,K.lookup T=some o/\o.data=.seq #[.none] n
section
variable {P:Program} {w:World} {K:PySem.W.Frag} {mg:Str->Option Value} {base:Heap}
theorem Fd.okE {x qual:Str} {st:Stmt} {f T:Addr} {fd:FuncData} {N ps:List Str} {k:Nat} {sp:Sp} (F:Fd K x qual st f fd T) (S:aR N ps (aC st)) (len:∀vs H Q E,sp vs H Q E->vs.length=ps.length)
  (hbody:∀(cdv:Value) (A:Around) (outer:List Env) (s:Shared) (H:Hp) (vs:List V) (Q:VK) (E:XK),mq P w H s.heap->dZ k (A.deeper (envOfC qual (aC st) s.heap.objs.size f cdv))->sp vs H Q E ->
   ∃t,Cq (vo (MN P w) P w K mg base N qual (aC st) f cdv A outer s H E) (bI st) t/\t { nx:=fun _ H'=>Q .non H',rt:=Q } (start N vs) H):bD P w K mg base (MN P w) (k+1) f fd ps sp:=by
 obtain⟨oc,od,kV,doc,pm,an,cdv,ct,osl,rfl,lk,hcd⟩:=F.ex;exact T4 lk hcd S len fun A outer s H vs Q E h00 hr hsp=>hbody cdv A outer s H vs Q E h00 hr hsp
theorem Fd.binds {x qual:Str} {st:Stmt} {f T:Addr} {fd:FuncData} {ps:List Str} {ds:List Value} (F:Fd K x qual st f fd T)
  (h:∀(kV doc pm:Value) (an:Option Addr) (cdv ct:Value) (us:List Value),(us++ds).length=ps.length->∃k,bindArgs (PySem.W.fnOf x qual (bN st) (bI st) (aC st) (.ref T) kV doc pm an cdv ct) ⟨us,[]⟩=seqItems? (.ref T) >>= k/\k (some #[.none])=pure (ps.zip (us++ds))):Binds K fd ps ds:=by
 obtain⟨oc,od,kV,doc,pm,an,cdv,ct,osl,rfl,lk,hcd⟩:=F.ex;obtain⟨o,n,ho,hd⟩:=F.df;intro s us KX hl;obtain⟨k,h1,h2⟩:=h kV doc pm an cdv ct us hl;exact BindsTo.of_defaults rfl (KX _ _ ho) hd h1 h2
structure Cu (P:Program) (w:World) (K:PySem.W.Frag) (mg:Str->Option Value) (base:Heap) (k:Nat) (C:Addr) (m:Str) (ps:List Str) (sp:Sp) where
 f:Addr
 fd:FuncData
 G:bD P w K mg base fY k f fd ps sp
 M:Meth K C m f
 c:Cv K C
 b:Binds K fd ps []
structure agq (P:Program) (w:World) (K:PySem.W.Frag) (mg:Str->Option Value) (base:Heap) (k:Nat) (C:Addr) (m:Str) (ps:List Str) (sp:Sp) where
 f:Addr
 fd:FuncData
 G:bD P w K mg base (MN P w) k f fd ps sp
 M:Meth K C m f
 c:Cv K C
 b:Binds K fd ps []
structure UT (P:Program) (w:World) (K:PySem.W.Frag) (mg:Str->Option Value) (base:Heap) (k:Nat) (C:Addr) (x:Str) (ps:List Str) (sp:Sp) where
 f:Addr
 fd:FuncData
 j:Nat
 hj:j+1<=k
 G:bD P w K mg base fY j f fd ps sp
 M:Mk K C f
 b:Binds K fd ps []
 bd:Binds K fd ps [.none]
 m:mg x=some (.ref C)
structure UL (P:Program) (w:World) (K:PySem.W.Frag) (mg:Str->Option Value) (base:Heap) (k:Nat) (C:Addr) (x:Str) (ps:List Str) (sp:Sp) where
 f:Addr
 fd:FuncData
 j:Nat
 hj:j+1<=k
 G:bD P w K mg base (MN P w) j f fd ps sp
 M:Mk K C f
 b:Binds K fd ps []
 bd:Binds K fd ps [.none]
 m:mg x=some (.ref C)
theorem bD.calm {k:Nat} {f:Addr} {fd:FuncData} {ps:List Str} {sp:Sp} (G:bD P w K mg base (MN P w) k f fd ps sp):bD P w K mg base fY k f fd ps (fun vs H Q _=>sp vs H Q E0):=
 ⟨fun vs H Q E h=>G.len _ _ _ _ h,fun A outer s H args us vs Q E hr he hb hv h=>codeAny_mono (G.run A outer s H args us vs Q E0 hr he hb hv h) fun r s' z=>by
  cases r with
  | error e=>
   obtain⟨_,_,_,_,_,_,_,_,_,_,_,_,_,q⟩:=z;exact q.elim
  | ok fl=>cases fl <;> exact z⟩
def Cu.mono {j k:Nat} {C:Addr} {m:Str} {ps:List Str} {sp:Sp} (c:Cu P w K mg base j C m ps sp) (h:j<=k):Cu P w K mg base k C m ps sp:={ c with G:=c.G.mono h }
def UT.mono {j k:Nat} {C:Addr} {m:Str} {ps:List Str} {sp:Sp} (c:UT P w K mg base j C m ps sp) (h:j<=k):UT P w K mg base k C m ps sp:={ c with hj:=kj c.hj h }
def UL.calm {k:Nat} {C:Addr} {m:Str} {ps:List Str} {sp:Sp} (c:UL P w K mg base k C m ps sp):UT P w K mg base k C m ps (fun vs H Q _=>sp vs H Q E0):=⟨c.f,c.fd,c.j,c.hj,c.G.calm,c.M,c.b,c.bd,c.m⟩
def Jr.alias {k:Nat} {x y:Str} {ps:List Str} {i:Int} {sp:Sp} (c:Jr P w K mg base k x ps i sp) (h:mg y=some (.ref c.f)):Jr P w K mg base k y ps i sp:=⟨c.f,c.fd,c.t,c.G,c.kp,c.b,c.bd,h⟩
end
section
variable {X:Cx} {C:Addr} {m x:Str} {apos pos p:Pos} {o e:Expr} {es:List Expr} {ta:TE} {t:TA} {k:Nat} {ps:List Str} {sp:Sp}
theorem pm (c:Cu X.prog X.w X.K X.mg X.base k C m ps sp) (hr:dZ k X.A) (ho:PE X o ta) (ha:PA X (e::es) t) (h1:b_ e=true:=by rfl) (h2:es.all b_=true:=by rfl) {pl:Sem Bool}
  (ht:eval (.Call (.Attribute o m apos) (e::es) [] pos) X.env=(do
   let ov <- eval o X.env
   standAt apos.atName
   let (f,first) <- holding [ov] (getMethod ov m pl)
   callWith pos f first (backTo pos (starEach (e::es) X.env)) (backToKw pos (keywordEach [] X.env))):=by rfl):PE X (.Call (.Attribute o m apos) (e::es) [] pos) (Ah C m sp [] E0 ta t):=
 OJ ho c.c c.M c.G hr c.b .nil w6 ha (bZ h1) (cJ h2) ht
theorem U6 (c:Cu X.prog X.w X.K X.mg X.base k C m ps sp) (hr:dZ k X.A) (ho:PE X o ta) {pl:Sem Bool}
  (ht:eval (.Call (.Attribute o m apos) [] [] pos) X.env=(do
   let ov <- eval o X.env
   standAt apos.atName
   let (f,first) <- holding [ov] (getMethod ov m pl)
   callWith pos f first (backTo pos (starEach [] X.env)) (backToKw pos (keywordEach [] X.env))):=by rfl):PE X (.Call (.Attribute o m apos) [] [] pos) (Ah C m sp [] E0 ta vK):=
 KC ho c.c c.M c.G hr c.b .nil w6 ht
theorem pk (c:UT X.prog X.w X.K X.mg X.base k C x ps sp) (hr:dZ k X.A) (ha:PA X (e::es) t) (hg:Gl X x:=by rfl) (hdb:(x==("__debug__" : Str))=false:=by decide) (h1:b_ e=true:=by rfl) (h2:es.all b_=true:=by rfl) :
  PE X (.Call (.Name x p) (e::es) [] pos) (JS C sp [] E0 t):=O2 c.M c.G (hr.mono c.hj) hg c.m c.b .nil w6 ha hdb (bZ h1) (cJ h2)
theorem bL {K:PySem.W.Frag} {f:Str} (hK:X.K=K) (he:PE X e ta) (hb:attributeBase e f X.env (eval e X.env)=eval e X.env:=by rfl):PE X (.Attribute e f pos) (RB K ta f):=by
 subst hK;exact Sh he hb
theorem g8 {K:PySem.W.Frag} {f:Str} {value:Expr} {pos':Pos} {tv:TE} (hK:X.K=K) (ha:PE X o ta) (hv:PE X value tv) (hs:swapsWith value (some (.Attribute o f pos')) pos.line X.env=pure false:=by rfl):PS X (.Assign [.Attribute o f pos'] value pos) (RT K ta tv f):=by
 subst hK;exact R4 ha hv hs
end
section
variable {P:Program} {w:World} {K:PySem.W.Frag} {mg:Str->Option Value} {base:Heap} {N:List Str} {qual:Str} {scope:Scope} {f:Addr} {cd:Value} {A:Around} {outer:List Env} {s0:Shared} {H0:Hp} {E:XK}
def Rz (C:Addr) (m:Str) (sp:Sp) (E:XK) (ta:TE) (t:TA):TE:=fun σ H Q=>ta σ H fun x H1=>∃a dx fs,x=.ref a/\H1 a=some (.ins C dx fs)/\fs.lookup m=none/\t σ H1 fun vs H2=>sp (.ref a::vs) H2 Q (fun cls _ H3=>∀H4,(aL H2 H3->aL H2 H4)->E cls none H4)
end
theorem Sw {X:Cx} {K:PySem.W.Frag} (hK:X.K=K):mj X (compareOp .In) (Wt K false):=by
 subst hK;exact HW
theorem HR {X:Cx} {K:PySem.W.Frag} (hK:X.K=K):mj X (compareOp .NotIn) (Wt K true):=by
 subst hK;exact yL
theorem xG (ns:List Str):(ns.map V.str).all pU=true:=by
 rw[List.all_map];exact mW.mpr fun _ _=>rfl
theorem Gx (n:Str) (ns:List Str):inV (.str n) (ns.map V.str)=decide (n∈ns):=by
 unfold inV;rw[List.any_map]
 induction ns with
 | nil=>rfl
 | cons a r ih=>
  rw[Dr,ih];by_cases h:n=a
  ·subst h;simp[M4]
  ·have:¬a=n:=fun z=>h z.symm;simp[M4,h,this]
def fL (H H':Hp):Prop:=∀b xs,H b=some (.tup xs)->H' b=some (.tup xs)
theorem fL.trans {H H1 H2:Hp} (a:fL H H1) (b:fL H1 H2):fL H H2:=fun c xs z=>b c xs (a c xs z)
theorem aL.kp {H H':Hp} (s:aL H H'):fL H H':=fun b _ z=>s b _ z
theorem fL.put {H:Hp} {p:Addr} {o:HO} (n:∀xs,H p≠some (.tup xs)):fL H (upd H p o):=fun b xs z=>by
 by_cases e:b=p
 ·subst e; exact absurd z (n xs)
 ·rw[aJ e]; exact z
theorem fL.putL {H:Hp} {p:Addr} {o:HO} {xs:List V} (n:H p=some (.lst xs)):fL H (upd H p o):=fL.put fun ys z=>by rw[n] at z; cases z
theorem fL.putD {H:Hp} {p:Addr} {o:HO} {xs:List (Key×V)} (n:H p=some (.dK xs)):fL H (upd H p o):=fL.put fun ys z=>by rw[n] at z; cases z
mutual
theorem At.kp {H H':Hp} (m:fL H H'):∀(d:PyData) (v:V),sZ d=true->At H d v->At H' d v
 | .none,_,_,h=>by unfold At at h ⊢; exact h
 | .bool _,_,_,h=>by unfold At at h ⊢; exact h
 | .int _,_,_,h=>by unfold At at h ⊢; exact h
 | .str _,_,_,h=>by unfold At at h ⊢; exact h
 | .tuple ds,v,n,h=>by
  unfold At at h ⊢;obtain⟨a,ys,e,h1,h2⟩:=h;exact⟨a,ys,e,m _ _ h1,aa.kp m ds ys (by simpa[sZ] using n) h2⟩
 | .list _,_,n,_=>by simp[sZ] at n
 | .dict _,_,n,_=>by simp[sZ] at n
theorem aa.kp {H H':Hp} (m:fL H H'):∀(ds:List PyData) (ys:List V),bJ ds=true->aa H ds ys->aa H' ds ys
 | [],_,_,h=>by unfold aa at h ⊢; exact h
 | d::ds,ys,n,h=>by
  unfold aa at h ⊢;obtain⟨x,r,e,h1,h2⟩:=h;simp only[bJ,Dt] at n;exact⟨x,r,e,At.kp m d x n.1 h1,aa.kp m ds r n.2 h2⟩
end
theorem aa.nth {H:Hp}:∀{ds:List PyData} {ys:List V} {i:Nat} {d:PyData},aa H ds ys->ds[i]?=some d->∃y,ys[i]?=some y/\At H d y
 | [],_,_,_,_,e=>by cases e
 | d::ds,ys,i,d',h,e=>by
  unfold aa at h;obtain⟨x,r,rfl,h1,h2⟩:=h;cases i with
  | zero=>cases e; exact⟨x,rfl,h1⟩
  | succ i=>exact aa.nth (ds:=ds) (ys:=r) (i:=i) h2 e
theorem aa.snoc {H:Hp} {ds:List PyData} {ys:List V} {d:PyData} {y:V} (h:aa H ds ys) (a:At H d y):aa H (ds++[d]) (ys++[y]):=aa.append h (aa.cons a aa.nil)
def Fr (S:List Addr) (H H':Hp):Prop:=∀b o,H b=some o->b∉S->H' b=some o
theorem Fr.refl (S:List Addr) (H:Hp):Fr S H H:=fun _ _ z _=>z
theorem aL.fr {H H':Hp} (s:aL H H') (S:List Addr):Fr S H H':=fun b o z _=>s b o z
theorem Fr.trans {S:List Addr} {H H1 H2:Hp} (a:Fr S H H1) (b:Fr S H1 H2):Fr S H H2:=fun c o z n=>b c o (a c o z n) n
theorem Fr.sub {S T:List Addr} {H H':Hp} (a:Fr S H H') (h:∀b∈S,b∈T\/H b=none):Fr T H H':=fun b o z n=>a b o z fun hb=>(h b hb).elim n fun e=>by rw[e] at z; cases z
theorem Fr.put {S:List Addr} {H:Hp} {p:Addr} {o:HO} (h:p∈S):Fr S H (upd H p o):=fun b u z n=>by
 have e:b≠p:=fun e=>n (by rw[e]; exact h)
 rw[aJ e]; exact z
theorem Fr.kp {S:List Addr} {H H':Hp} (a:Fr S H H') (n:∀b∈S,∀xs,H b≠some (.tup xs)):fL H H':=fun b xs z=>a b _ z fun hb=>n b hb xs z
def zK (ns:List Str) (vs:List V):List (Key×V):=(ns.map Sum.inr).zip vs
theorem CG {ns:List Str} {vs:List V} (h:ns.length=vs.length):(zK ns vs).length=ns.length:=by unfold zK; rw[Ds,cT]; omega
theorem JC:∀{ns:List Str} {vs:List V} {i:Nat} {n:Str},ns.Nodup->ns[i]?=some n->ns.length=vs.length->oW (zK ns vs) (Sum.inr n:Key)=vs[i]?
 | [],_,_,_,_,h,_=>by cases h
 | a::ns,[],_,_,_,_,h=>by cases h
 | a::ns,v::vs,0,n,_,h,_=>by
  cases h;exact oV rfl
 | a::ns,v::vs,i+1,n,nd,h,l=>by
  have hn:a≠n:=fun z=>by
   subst z;exact(jL.mp nd).1 (oh h)
  show oW ((Sum.inr a,v)::zK ns vs) (Sum.inr n:Key)=_;unfold oW;rw[List.find?_cons_of_neg (by simpa using hn)]
  exact JC (jL.mp nd).2 h (Nat.succ.inj l)
theorem CJ:∀{ns:List Str} {vs:List V} {n:Str},ns.length=vs.length->((zK ns vs).any fun kv=>decide (kv.1=(Sum.inr n:Key)))=decide (n∈ns)
 | [],_,_,_=>by simp[zK]
 | a::ns,[],_,h=>by cases h
 | a::ns,v::vs,n,l=>by
  show(((Sum.inr a,v)::zK ns vs).any _)=_;rw[Dr,CJ (Nat.succ.inj l)];by_cases h:n=a
  ·subst h; simp
  ·have:¬a=n:=fun z=>h z.symm;simp[h,this]
theorem JF:∀{ns:List Str} {vs:List V} {i:Nat} {n:Str} {u:V},ns.Nodup->ns[i]?=some n->ns.length=vs.length->((zK ns vs).map fun kv=>if kv.1=(Sum.inr n:Key) then(kv.1,u) else kv)=zK ns (vs.set i u)
 | [],_,_,_,_,_,h,_=>by cases h
 | a::ns,[],_,_,_,_,_,h=>by cases h
 | a::ns,v::vs,0,n,u,nd,h,l=>by
  cases h;show(((Sum.inr a,v)::zK ns vs).map _)=(Sum.inr a,u)::zK ns vs;rw[nU,a_ rfl]
  congr 1
  have hn:=(jL.mp nd).1;rw[List.map_congr_left (g:=id),List.map_id];intro kv hkv;refine aV fun z=>hn ?_;have:=Bj hkv;rw[z] at this;simpa using this.1
 | a::ns,v::vs,i+1,n,u,nd,h,l=>by
  have hn:a≠n:=fun z=>by
   subst z;exact(jL.mp nd).1 (oh h)
  show(((Sum.inr a,v)::zK ns vs).map _)=(Sum.inr a,v)::zK ns (vs.set i u);rw[nU,aV (by simpa using hn),JF (jL.mp nd).2 h (Nat.succ.inj l)]
theorem Rn {ns:List Str} {vs:List V} {i:Nat} {n:Str} {u:V} (nd:ns.Nodup) (h:ns[i]?=some n) (l:ns.length=vs.length):putK (zK ns vs) (Sum.inr n:Key) u=zK ns (vs.set i u):=by
 unfold putK;rw[a_ (by rw[CJ l]; exact nW (oh h)),JF nd h l]
theorem JD {ns:List Str} {vs:List V} {n:Str} {u:V} (h:n∉ns) (l:ns.length=vs.length):putK (zK ns vs) (Sum.inr n:Key) u=zK (ns++[n]) (vs++[u]):=by
 unfold putK;rw[aV (by rw[CJ l]; simpa using h)]
 unfold zK;rw[jK,List.zip_append (by rw[cT]; exact l)]
 rfl
theorem Ae:∀(ns:List Str) (vs:List V) (ms:List Str) (us:List V),(ms++ns).Nodup->ms.length=us.length->ns.length=vs.length->iG (zK ms us) (zK ns vs)=zK (ms++ns) (us++vs)
 | [],vs,ms,us,_,_,l=>by
  cases vs with
  | nil=>rw[Ax,Ax]; rfl
  | cons=>cases l
 | a::ns,[],ms,us,_,_,l=>by cases l
 | a::ns,v::vs,ms,us,nd,h,l=>by
  have hn:a∉ms:=fun z=>by
   rw[uD] at nd;exact nd.2.2 a z a (nZ ..) rfl
  show iG (putK (zK ms us) (Sum.inr a) v) (zK ns vs)=_;rw[JD hn h,Ae ns vs (ms++[a]) (us++[v]) (by rw[Hw]; exact nd) (by simp[h]) (Nat.succ.inj l),Hw,Hw]
  rfl
theorem j8.z {H:Hp} {a:Addr} {ns:List Str} {vs:List V} {i:Nat} {n:Str} {v:V} (e:H a=some (.dK (zK ns vs))) (nd:ns.Nodup) (h:ns[i]?=some n) (l:ns.length=vs.length) (hv:vs[i]?=some v):j8 H a (.str n) (some v):=by
 have:=j8.k (k:=(Sum.inr n:Key)) e;rw[JC nd h l,hv] at this;exact this
theorem sO.z {H:Hp} {a:Addr} {ns:List Str} {vs:List V} {i:Nat} {n:Str} {v:V} (e:H a=some (.dK (zK ns vs))) (nd:ns.Nodup) (h:ns[i]?=some n) (l:ns.length=vs.length) (z:ns.length<=1000):sO H a (.str n) v (upd H a (.dK (zK ns (vs.set i v)))):=by
 have:=sO.k (k:=(Sum.inr n:Key)) (v:=v) e (aW (by rw[CG l]; exact z))
 rw[Rn nd h l] at this;exact this
theorem Mg {K:PySem.W.Frag} {nt:Nat} {g:TG} {js:List Nat} {a:Addr} {xs:List V} {tl tk tv:TE} {σ:St} {H:Hp} {Q:VK} (τ:Nat->St) (hτ:∀i,(τ i).length=nt) (hl:∀R:VK,R (.ref a) H->tl σ H R) (ha:H a=some (.lst xs))
  (h:∀acc,H acc=none->∃Pv:Nat->List (Key×V)->Hp->Prop,Pv 0 [] (upd H acc (.dK []))/\(∀i ys H',Pv i ys H'->H' a=some (.lst xs)) /\
   (∀i x ys H',xs[i]?=some x->Pv i ys H'->(∀R:St->Hp->Prop,R (τ i++cH js σ) H'->g x (List.replicate nt none++cH js σ) H' R)/\tk (τ i++cH js σ) H' fun y H4=>tv (τ i++cH js σ) H4 fun v H5=>∃k,y=kV k/\H5 acc=some (.dK ys)/\ys.length<sizeLine/\Pv (i+1) (putK ys k v) (upd H5 acc (.dK (putK ys k v))))/\∀ys H',Pv xs.length ys H'->Q (.ref acc) H'):tV nt js (pO K tl) g tk tv σ H Q:=by
 refine hl _ ⟨a,rfl,⟨xs,cV.of ha⟩,fun acc hacc=>?_⟩;obtain⟨Pv,p0,pA,ps,pf⟩:=h acc hacc;refine⟨fun i m ys H2=>m=xs.length-i/\i<=xs.length/\Pv i ys H2,⟨_,rfl,iY _,p0⟩,?_⟩;rintro i m ys H2 ⟨rfl,hi,hP⟩;have ht:cV K H2 a xs:=cV.of (pA _ _ _ hP);by_cases hlt:i<xs.length
 ·refine .inr ⟨⟨xs,xs[i],ht,gG hlt⟩,fun x H3 y=>?_⟩;obtain⟨e1,y⟩:=y;subst e1;obtain⟨gg,tt⟩:=ps i x ys _ (y xs ht) hP;refine gg _ ⟨⟨?_,?_⟩,?_⟩
  ·rw[List.drop_append_of_le_length (by rw[hτ]; exact bG _),<- hτ i,Du,List.nil_append]
  ·rw[dh,dh,hτ,qJ]
  have e:(fun(y:V) (H4:Hp)=>tv (τ i++cH js σ) H4 fun v H5=>∃k,y=kV k/\H5 acc=some (.dK ys)/\ys.length<sizeLine/\Pv (i+1) (putK ys k v) (upd H5 acc (.dK (putK ys k v))))=fun y H4=>tv (τ i++cH js σ) H4 fun v H5=>∃k,y=kV k/\H5 acc=some (.dK ys)/\ys.length<sizeLine/\∃m',m'<xs.length-i/\(m'=xs.length-(i+1)/\i+1<=xs.length/\Pv (i+1) (putK ys k v) (upd H5 acc (.dK (putK ys k v)))):=by
   funext y H4
   congr 1
   funext v H5
   exact propext ⟨fun⟨k,z0,z1,z2,z3⟩=>⟨k,z0,z1,z2,xs.length-(i+1),by omega,rfl,hlt,z3⟩,fun⟨k,z0,z1,z2,_,_,_,_,z3⟩=>⟨k,z0,z1,z2,z3⟩⟩
  rw[e] at tt;exact tt
 ·have e:i=xs.length:=by omega
  subst e;exact .inl ⟨⟨xs,ht,bG _⟩,pf _ _ hP⟩
theorem dI {α:Type} {l:List α} {i:Nat} {x:α} (h:l[i]?=some x):l.take (i+1)=l.take i++[x]:=by
 rw[List.take_add_one,h]; rfl
theorem tH {K:PySem.W.Frag} {nt:Nat} {g:TG} {js:List Nat} {a:Addr} {xs:List V} {tl tk tv:TE} {σ:St} {H:Hp} {Q:VK} (ns:List Str) (ds:List PyData) (τ:Nat->St) (hτ:∀i,(τ i).length=nt) (hl:∀R:VK,R (.ref a) H->tl σ H R) (ha:H a=some (.lst xs))
  (nd:ns.Nodup) (ln:ns.length=xs.length) (ld:ds.length=xs.length) (hz:xs.length<=1000) (hn:bJ ds=true)
  (step:∀i x n d H',xs[i]?=some x->ns[i]?=some n->ds[i]?=some d->aL H H'->(∀R:St->Hp->Prop,R (τ i++cH js σ) H'->g x (List.replicate nt none++cH js σ) H' R)/\(∀R:VK,R (.str n) H'->tk (τ i++cH js σ) H' R)/\∀R:VK,(∀v H5,aL H' H5->At H5 d v->R v H5)->tv (τ i++cH js σ) H' R)
  (fin:∀acc vs H',H acc=none->aL H H'->H' acc=some (.dK (zK ns vs))->aa H' ds vs->ns.length=vs.length->Q (.ref acc) H'):tV nt js (pO K tl) g tk tv σ H Q:=by
 refine Mg τ hτ hl ha fun acc hacc=>?_;refine⟨fun i ys H2=>∃vs,ys=zK (ns.take i) vs/\(ns.take i).length=vs.length/\aa H2 (ds.take i) vs/\aL H H2/\H2 acc=some (.dK ys),⟨[],rfl,rfl,aa.nil,aN hacc _,aA⟩,fun i ys H2 q=>?_,?_,?_⟩
 ·obtain⟨vs,_,_,_,s2,_⟩:=q;exact s2 _ _ ha
 ·rintro i x ys H2 hx ⟨vs,rfl,lv,av,s2,e2⟩;have hi:i<xs.length:=(eN.mp hx).1;have en:ns[i]?=some ns[i]:=gG (by omega)
  have ed:ds[i]?=some ds[i]:=gG (by omega)
  obtain⟨g1,g2,g3⟩:=step i x _ _ H2 hx en ed s2;refine⟨g1,g2 _ (g3 _ fun v H5 s5 a5=>⟨Sum.inr ns[i],rfl,s5 _ _ e2,aW ?_,vs++[v],?_,?_,?_,?_,aA⟩)⟩
  ·rw[CG lv,lH]; omega
  ·rw[dI en,JD _ lv];intro z;rw[<- List.take_append_drop i ns,uD] at nd;exact nd.2.2 _ z _ (by rw[Hz (by omega)]; exact nZ ..) rfl
  ·rw[dI en,dh,dh,lv]; rfl
  ·rw[dI ed];have k5:fL H2 (upd H5 acc (.dK (putK (zK (ns.take i) vs) (Sum.inr ns[i]) v))):=s5.kp.trans (fL.putD (s5 _ _ e2));have hn':=bz.mp hn;exact(aa.kp k5 _ _ (bz.mpr fun d hd=>hn' d (DK hd)) av).snoc (At.kp (fL.putD (s5 _ _ e2)) _ _ (hn' _ (yr _)) a5)
  ·intro b o z;rw[aJ (fun e=>by rw[e,hacc] at z; cases z)]
   exact s5 _ _ (s2 _ _ z)
 ·rintro ys H2 ⟨vs,rfl,lv,av,s2,e2⟩;rw[show xs.length=ns.length from ln.symm,nY] at e2 lv;rw[show xs.length=ds.length from ld.symm,nY] at av;exact fin acc vs H2 hacc s2 e2 av lv
theorem pY {K:PySem.W.Frag} {nt:Nat} {g:TG} {js:List Nat} {a:Addr} {xs:List V} {tl te:TE} {σ:St} {H:Hp} {Q:VK} (ds:List PyData) (τ:Nat->St) (hτ:∀i,(τ i).length=nt) (hl:∀R:VK,R (.ref a) H->tl σ H R) (ha:H a=some (.lst xs))
  (ld:ds.length=xs.length) (hz:xs.length<=1000) (hn:bJ ds=true)
  (step:∀i x d H',xs[i]?=some x->ds[i]?=some d->aL H H'->(∀R:St->Hp->Prop,R (τ i++cH js σ) H'->g x (List.replicate nt none++cH js σ) H' R)/\∀R:VK,(∀v H5,aL H' H5->At H5 d v->R v H5)->te (τ i++cH js σ) H' R)
  (fin:∀acc vs H',H acc=none->aL H H'->H' acc=some (.lst vs)->aa H' ds vs->Q (.ref acc) H'):jQ nt js (pO K tl) g Hk te σ H Q:=by
 refine Mj τ hτ hl ha fun acc hacc=>?_;refine⟨fun i ys H2=>ys.length=i/\aa H2 (ds.take i) ys/\aL H H2/\H2 acc=some (.lst ys),⟨rfl,aa.nil,aN hacc _,aA⟩,fun i ys H2 q=>q.2.2.1 _ _ ha,?_,?_⟩
 ·rintro i x ys H2 hx ⟨lv,av,s2,e2⟩;have hi:i<xs.length:=(eN.mp hx).1;have ed:ds[i]?=some ds[i]:=gG (by omega)
  obtain⟨g1,g3⟩:=step i x _ H2 hx ed s2;refine⟨g1,g3 _ fun v H5 s5 a5=>⟨s5 _ _ e2,aW (by omega),by rw[dh,lv]; rfl,?_,?_,aA⟩⟩
  ·rw[dI ed];have k5:fL H2 (upd H5 acc (.lst (ys++[v]))):=s5.kp.trans (fL.putL (s5 _ _ e2));have hn':=bz.mp hn;exact(aa.kp k5 _ _ (bz.mpr fun d hd=>hn' d (DK hd)) av).snoc (At.kp (fL.putL (s5 _ _ e2)) _ _ (hn' _ (yr _)) a5)
  ·intro b o z;rw[aJ (fun e=>by rw[e,hacc] at z; cases z)]
   exact s5 _ _ (s2 _ _ z)
 ·rintro ys H2 ⟨lv,av,s2,e2⟩;rw[show xs.length=ds.length from ld.symm,nY] at av;exact fin acc ys H2 hacc s2 e2 av
theorem jf {K:PySem.W.Frag} {js:List Nat} {a:Addr} {xs:List V} {tl te:TE} {σ:St} {H:Hp} {Q:VK} (ds:List PyData) (hl:∀R:VK,R (.ref a) H->tl σ H R) (ha:H a=some (.lst xs))
  (ld:ds.length=xs.length) (hz:xs.length<=1000) (hn:bJ ds=true)
  (step:∀(i:Nat) x d H',xs[i]?=some x->ds[i]?=some d->aL H H'->∀R:VK,(∀v H5,aL H' H5->At H5 d v->R v H5)->te (some x::cH js σ) H' R)
  (fin:∀acc vs H',H acc=none->aL H H'->H' acc=some (.lst vs)->aa H' ds vs->Q (.ref acc) H'):ir js (pO K tl) te σ H Q:=by
 refine hl _ ⟨a,rfl,⟨xs,cV.of ha⟩,fun acc hacc=>?_⟩;refine⟨fun i m ys H2=>m=xs.length-i/\i<=xs.length/\ys.length=i/\aa H2 (ds.take i) ys/\aL H H2/\H2 acc=some (.lst ys),⟨_,rfl,iY _,rfl,aa.nil,aN hacc _,aA⟩,?_⟩;rintro i m ys H2 ⟨rfl,hi,lv,av,s2,e2⟩;have ht:cV K H2 a xs:=cV.of (s2 _ _ ha);by_cases hlt:i<xs.length
 ·refine .inr ⟨⟨xs,xs[i],ht,gG hlt⟩,fun x H3 y=>?_⟩;obtain⟨e1,y⟩:=y;subst e1;have ed:ds[i]?=some ds[i]:=gG (by omega)
  refine step i x _ _ (y xs ht) ed s2 _ fun v H5 s5 a5=>⟨s5 _ _ e2,aW (by omega),xs.length-(i+1),by omega,rfl,hlt,by rw[dh,lv]; rfl,?_,?_,aA⟩
  ·rw[dI ed];have k5:fL H3 (upd H5 acc (.lst (ys++[v]))):=s5.kp.trans (fL.putL (s5 _ _ e2));have hn':=bz.mp hn;exact(aa.kp k5 _ _ (bz.mpr fun d hd=>hn' d (DK hd)) av).snoc (At.kp (fL.putL (s5 _ _ e2)) _ _ (hn' _ (yr _)) a5)
  ·intro b o z;rw[aJ (fun e=>by rw[e,hacc] at z; cases z)]
   exact s5 _ _ (s2 _ _ z)
 ·have e:i=xs.length:=by omega
  subst e;rw[show xs.length=ds.length from ld.symm,nY] at av;exact .inl ⟨⟨xs,ht,bG _⟩,fin acc ys H2 hacc s2 e2 av⟩
theorem Qi {K:PySem.W.Frag} {js:List Nat} {d:Addr} {kvs:List (Key×V)} {tl te:TE} {σ:St} {H:Hp} {Q:VK} (ms:List Int) (hl:∀R:VK,R (.ref d) H->tl σ H R) (ha:H d=some (.dK kvs)) (ld:ms.length=kvs.length) (hz:kvs.length<=1000)
  (step:∀(i:Nat) k x m H',kvs[i]?=some (k,x)->ms[i]?=some m->fL H H'->∀R:VK,(∀H5,aL H' H5->R (.int m) H5)->te (some x::cH js σ) H' R)
  (fin:∀acc H',H acc=none->aL H H'->H' acc=some (.lst (ms.map V.int))->Q (.ref acc) H'):Qx (ir js (Q4 K tl) te) σ H Q:=by
 refine hl _ ⟨d,kvs,rfl,ha,fun o acc hacc=>?_⟩;have nd:acc≠d:=fun z=>by rw[z,aA] at hacc; cases hacc
 rw[aJ nd] at hacc;refine⟨fun i m ys H2=>m=kvs.length-i/\i<=kvs.length/\ys=(ms.take i).map V.int/\H2 acc=some (.lst ys)/\H2 d=some (.rG o (.dK kvs))/\∀b u,H b=some u->b≠d->H2 b=some u,⟨_,rfl,iY _,rfl,aA,by rw[aJ nd.symm,aA],fun b u z n=>by rw[aJ (fun e=>by rw[e,hacc] at z; cases z),aJ n]; exact z⟩,?_⟩
 rintro i m ys H2 ⟨rfl,hi,rfl,e2,f2,k2⟩;by_cases hlt:i<kvs.length
 ·refine .inr ⟨⟨f2,hlt⟩,fun x H3 y=>?_⟩;obtain⟨e1,k,hx⟩:=y;subst e1;have em:ms[i]?=some ms[i]:=gG (by omega)
  refine step i k x _ _ hx em (fun b xs z=>k2 b _ z fun e=>by rw[e,ha] at z; cases z) _ fun H5 s5=>⟨s5 _ _ e2,aW (by rw[cT,lH]; omega),kvs.length-(i+1),by omega,rfl,hlt,?_,aA,?_,?_⟩
  ·rw[dI em,jK]; rfl
  ·rw[aJ nd.symm]; exact s5 _ _ f2
  ·intro b u z n;rw[aJ (fun e=>by rw[e,hacc] at z; cases z)]
   exact s5 _ _ (k2 b u z n)
 ·have e:i=kvs.length:=by omega
  subst e;refine .inl ⟨⟨f2,bG _⟩,d,kvs,o,ha,f2,?_⟩;refine fin acc _ hacc (fun b u z=>?_) (by rw[aJ nd,e2,<- ld,nY])
  by_cases e:b=d
  ·subst e; rw[aA,<- z,ha]
  ·rw[aJ e]; exact k2 b u z e
end L2
namespace L2
open PySem PySem.Spec PyProof.Rows PySem.Builtin PySem.Builtin.ObjectAttr
section
variable {prog:Program} {w:World} {A:Around} {E:Value->Shared->Prop} {h:Heap} {g:Array GenState} {d:Drawn} {t:Nat} {os:OsState}
variable {nm q:Str} {C N:Addr} {bs bm bmB:List Value} {hdct:Bool} {sn:List Str} {sub:List Value} {ab:Bool} {col:Option Bool} {dd:Option Addr} {k0 k1 k2 k3 k5:Option Value} {B Bn newId nid initId inN:String} {bmN:List Value}
end
section
variable {prog:Program} {w:World} {A:Around} {E:Value->Shared->Prop} {h:Heap} {g:Array GenState} {d:Drawn} {t:Nat} {os:OsState}
variable {nm q:Str} {C N x HE:Addr} {bs bm:List Value} {sn:List Str} {sub:List Value} {ab:Bool} {col:Option Bool} {dd:Option Addr} {k0 k1 k2 k3 k5:Option Value} {newId:String} {name:Str} {v:Value} {K:PySem.W.Frag}
structure Za (h h':Heap) (x:Addr) (o:Obj) (dx:Addr) (name:Str) (v:Value):Prop where
 at_:h'.get? x=some { o with dict:=some dx }
 new:h.get? dx=none
 ns:h'.Ns1 dx (fun y=>if y=name then some v else none)
 keep:∀b u,b≠x->h.get? b=some u->h'.get? b=some u
end
end L2
namespace L2
open PySem PySem.Spec PyProof.Rows PySem.Builtin PySem.Builtin.ObjectAttr
structure ExS (K:PySem.W.Frag) (C HE:Addr) (f:Str):Prop where
 ob:∃nm q N bs sn sub ab col dd k0 k1 k2 k3 k5,K.lookup C=some (excClassObj nm q C N bs (.ref HE::Zv) true sn sub ab col dd k0 k1 k2 k3 k5 "ValueError.__new__")
 he:PySem.W.excIn K HE Zv "ValueError.__new__" = true
 sa:PySem.W.findIn K (.ref C) "__setattr__" = some (some (.builtin "object.__setattr__"))
 nf:PySem.W.findIn K (.ref C) f=some none
structure ExM (K:PySem.W.Frag) (C HE f:Addr) (fl:Str):Prop where
 s:ExS K C HE fl
 init:PySem.W.findIn K (.ref C) "__init__" = some (some (.ref f))
 own:∃N,(PySem.W.clsIn K C).map (·.ns)=some N/\PySem.W.nsIn K N "__init__" = some (some (.ref f))/\PySem.W.nsOkIn K N=true
 fn:PySem.W.isFn K (.ref f)=true
 kp:PySem.W.keepIn K (.ref C)=true
section
variable {X:Cx} {C HE:Addr} {fl x:Str} {o value:Expr} {ta tv:TE} {pos pos' p:Pos}
end
section
variable {prog:Program} {w:World} {A:Around} {E:Value->Shared->Prop} {s:Shared} {K:PySem.W.Frag} {x D:Addr} {ox:Obj} {od:Option Obj}
structure ExR (K:PySem.W.Frag) (D:Addr):Prop where
 ga:PySem.W.findIn K (.ref D) "__getattribute__" = some (some (.builtin "BaseException.__getattribute__"))
 gt:PySem.W.findIn K (.ref D) "__getattr__" = some none
 fo:∀od,PySem.W.findObj K D od "__class__" = some (.bind (.builtin "getset_descriptor.__get__") (.builtin "object.__class__"))
 sb:PySem.W.subIn K (.ref D) (.type "BaseException")=some true
 ob:PySem.W.mroIn K D (.type "object")=some true
 cl:(PySem.W.clsIn K D).isSome=true
 hd:PySem.W.hasDictIn K D=true
end
section
variable {X:Cx} {pins:List (Addr×Obj)} {σ:St} {H:Hp} {s:Shared} {a C:Addr} {f:Str} {v:V}
end
structure CtX (P:Program) (w:World) (K:PySem.W.Frag) (mg:Str->Option Value) (base:Heap) (k:Nat) (C:Addr) (x:Str) (ps:List Str) (sp:Sp) where
 f:Addr
 fd:FuncData
 j:Nat
 hj:j+1<=k
 HE:Addr
 fl:Str
 G:bD P w K mg base fY j f fd ps sp
 M:ExM K C HE f fl
 b:Binds K fd ps []
 m:mg x=some (.ref C)
section
variable {K:PySem.W.Frag} {C HE f:Addr} {fl:Str}
abbrev FnM (K:PySem.W.Frag) (x qual:Str) (st:Stmt) (f:Addr):Prop:=∃(oc:Value) (od an:Option Addr) (sl:Array (Option Value)) (kV dc pm cd ct:Value),K.lookup f=some ⟨oc,od,.func (PySem.W.fnOf x qual (bN st) (bI st) (aC st) .none kV dc pm an cd ct),sl⟩/\PySem.W.codeIn K cd qual=true/\PySem.W.keepIn K (.ref f)=true
end
end L2
namespace L2
open PySem PySem.Spec PyProof.Rows
structure G7 (K:PySem.W.Frag) (C:Addr) (m qual:Str) (st:Stmt) (f:Addr):Prop where
 me:Meth K C m f
 fn:FnM K m qual st f
theorem G7.mk' {K:PySem.W.Frag} {C:Addr} {m qual:Str} {st:Stmt} {f:Addr} {oc:Value} {od an:Option Addr} {sl:Array (Option Value)} {kV dc pm cd ct:Value} (a:PySem.W.findIn K (.ref C) m=some (some (.ref f))) (i:PySem.W.isFn K (.ref f)=true) (l:K.lookup f=some ⟨oc,od,.func (PySem.W.fnOf m qual (bN st) (bI st) (aC st) .none kV dc pm an cd ct),sl⟩) (c:PySem.W.codeIn K cd qual=true) (k:PySem.W.keepIn K (.ref f)=true):G7 K C m qual st f:=⟨⟨a,i,k⟩,⟨oc,od,an,sl,kV,dc,pm,cd,ct,l,c,k⟩⟩
structure Uw (K:PySem.W.Frag) (C:Addr) (m qual:Str) (st:Stmt) (ps:List Str) where
 f:Addr
 fd:FuncData
 F:jh K m qual st f fd
 b:Binds K fd ps []
 M:Meth K C m f
section
variable {K:PySem.W.Frag} {h:Heap} {mg:Str->Option Value} {C:Addr}
theorem G7.has {m qual:Str} {st:Stmt} {f:Addr} (e:G7 K C m qual st f) {ps:List Str} (H:∀(kV doc pm:Value) (an:Option Addr) (cdv ct:Value) (us:List Value),us.length=ps.length->bindArgs (PySem.W.fnOf m qual (bN st) (bI st) (aC st) .none kV doc pm an cdv ct) ⟨us,[]⟩=pure (ps.zip us)):Nonempty (Uw K C m qual st ps):=by
 obtain⟨M,oc,od,an,sl,kV,dc,pm,cd,ct,l,c,k⟩:=e;have F:=Em (st:=st) l c k;exact⟨⟨_,_,F,F.binds H,M⟩⟩
def Uw.ct {m qual:Str} {st:Stmt} {ps:List Str} {k:Nat} {sp:Sp} (h:Uw K C m qual st ps) (c:Cv K C) (P:Program) (w:World) (base:Heap) (G:bD P w K mg base fY k h.f h.fd ps sp):Cu P w K mg base k C m ps sp:=⟨h.f,h.fd,G,h.M,c,h.b⟩
theorem Ri.ns {x:Str} {st:Stmt} {f T:Addr} {i:Int} (e:Ri K x st f T i):PySem.W.nsIn K mainGlobals x=some (some (.ref f)):=by
 obtain⟨_,_,_,_,_,_,_,_,_,_,_,_,_,_,a,_⟩:=e;exact a
structure Vs (K:PySem.W.Frag) (x qual:Str) (st:Stmt) (C:Addr):Prop where
 ns:PySem.W.nsIn K mainGlobals x=some (some (.ref C))
 c:Cv K C
 init:∃f,Mk K C f/\∃(oc oT:Value) (od an dT:Option Addr) (sl sT:Array (Option Value)) (kV dc pm cd ct:Value) (T:Addr) (nT:Nat),K.lookup f=some ⟨oc,od,.func (PySem.W.fnOf "__init__" qual (bN st) (bI st) (aC st) (.ref T) kV dc pm an cd ct),sl⟩/\PySem.W.codeIn K cd qual=true/\PySem.W.keepIn K (.ref f)=true/\K.lookup T=some ⟨oT,dT,.seq #[.none] nT,sT⟩
theorem Vs.mk' {x qual:Str} {st:Stmt} {f T:Addr} {oc oT:Value} {od an dT:Option Addr} {sl sT:Array (Option Value)} {kV dc pm cd ct:Value} {nT:Nat} (a:PySem.W.nsIn K mainGlobals x=some (some (.ref C))) (a1:PySem.W.findIn K (.ref C) "__init__" = some (some (.ref f))) (i:PySem.W.isFn K (.ref f)=true)
  (l:K.lookup f=some ⟨oc,od,.func (PySem.W.fnOf "__init__" qual (bN st) (bI st) (aC st) (.ref T) kV dc pm an cd ct),sl⟩) (c:PySem.W.codeIn K cd qual=true) (k:PySem.W.keepIn K (.ref f)=true) (e:K.lookup T=some ⟨oT,dT,.seq #[.none] nT,sT⟩)
  (pg:PySem.W.plainGet K C Str.empty=true) (hd:PySem.W.hasDictIn K C=true) (po:PySem.W.plainOver K C=true) (sa:PySem.W.findIn K (.ref C) "__setattr__" = some (some (.builtin "object.__setattr__"))) (mk:PySem.W.makesIn K C=true) (kc:PySem.W.keepIn K (.ref C)=true):Vs K x qual st C:=
 ⟨a,⟨pg,hd,po,sa⟩,f,⟨mk,a1,i,kc⟩,oc,oT,od,an,dT,sl,sT,kV,dc,pm,cd,ct,T,nT,l,c,k,e⟩
structure Uy (K:PySem.W.Frag) (mg:Str->Option Value) (x qual:Str) (st:Stmt) (ps:List Str) (C:Addr) where
 f:Addr
 fd:FuncData
 T:Addr
 F:Fd K "__init__" qual st f fd T
 b:Binds K fd ps []
 bd:Binds K fd ps [.none]
 M:Mk K C f
 m:mg x=some (.ref C)
theorem Vs.has {x qual:Str} {st:Stmt} (e:Vs K x qual st C) (X:K.In h) (G:h.Ns mainGlobals mg) {ps:List Str}
  (H:∀(T:Addr) (kV doc pm:Value) (an:Option Addr) (cdv ct:Value) (us:List Value),(us++[]).length=ps.length->∃k,bindArgs (PySem.W.fnOf "__init__" qual (bN st) (bI st) (aC st) (.ref T) kV doc pm an cdv ct) ⟨us,[]⟩=seqItems? (.ref T) >>= k/\k (some #[.none])=pure (ps.zip (us++[])))
  (H':∀(T:Addr) (kV doc pm:Value) (an:Option Addr) (cdv ct:Value) (us:List Value),(us++[Value.none]).length=ps.length->∃k,bindArgs (PySem.W.fnOf "__init__" qual (bN st) (bI st) (aC st) (.ref T) kV doc pm an cdv ct) ⟨us,[]⟩=seqItems? (.ref T) >>= k/\k (some #[.none])=pure (ps.zip (us++[.none]))):Nonempty (Uy K mg x qual st ps C):=by
 obtain⟨a,cl,f,M,oc,oT,od,an,dT,sl,sT,kV,dc,pm,cd,ct,T,nT,l,c,k,e⟩:=e;have F:Fd K "__init__" qual st f _ T:=⟨⟨_,_,_,_,_,_,_,_,_,rfl,l,c⟩,k,⟨_,_,e,rfl⟩⟩;exact⟨⟨_,_,_,F,F.binds (H T),F.binds (H' T),M,PySem.W.mg_of X G a⟩⟩
def Uy.ctE {x qual:Str} {st:Stmt} {ps:List Str} {k:Nat} {sp:Sp} (h:Uy K mg x qual st ps C) (P:Program) (w:World) (base:Heap) (G:bD P w K mg base (MN P w) k h.f h.fd ps sp):UL P w K mg base (k+1) C x ps sp:=⟨h.f,h.fd,k,bG _,G,h.M,h.b,h.bd,h.m⟩
end
end L2
namespace Zg
open PySem L2
def top (i:Nat):Stmt:=PySem.Challenge.pw_waithands_k39_yards_of_one_post.main.body.getD i (.Pass ⟨0,0,0,0⟩)
abbrev qD:Stmt:=top 9
abbrev Dl:Stmt:=top 11
abbrev lB:Stmt:=top 12
abbrev nJ:Stmt:=top 13
abbrev jk:Stmt:=top 16
abbrev nP:Stmt:=top 17
abbrev Dm:Stmt:=top 19
abbrev fP:Stmt:=top 21
abbrev lC:Stmt:=top 22
abbrev jj:Stmt:=top 23
abbrev lA:Stmt:=top 24
abbrev jl:Stmt:=top 32
abbrev jm:Stmt:=top 33
abbrev iz:Stmt:=top 34
abbrev iy:Stmt:=top 35
abbrev um:Stmt:=top 37
abbrev yh:Stmt:=top 38
abbrev uq:Stmt:=top 40
abbrev uw:Stmt:=top 41
abbrev qw:Stmt:=top 42
abbrev yg:Stmt:=top 43
abbrev qz:Stmt:=top 44
abbrev ur:Stmt:=top 45
abbrev iw:Stmt:=top 46
abbrev qy:Stmt:=top 47
abbrev qC:Stmt:=top 48
abbrev uv:Stmt:=top 49
abbrev nM:Stmt:=top 50
abbrev uo:Stmt:=top 51
abbrev fQ:Stmt:=inClass (top 31) 0
abbrev jX:Stmt:=inClass (top 31) 1
abbrev fB:Stmt:=inClass (top 31) 2
abbrev d9:Stmt:=inClass (top 31) 3
abbrev jo:Stmt:=inClass (top 31) 6
abbrev jq:Stmt:=inClass (top 31) 9
abbrev jr:Stmt:=inClass (top 31) 10
abbrev jW:Stmt:=inClass (top 31) 13
abbrev jV:Stmt:=inClass (top 31) 14
abbrev jU:Stmt:=inClass (top 31) 15
structure Bi (mg:Str->Option Value):Prop where
 all:mg "all" = none
 isinstance:mg "isinstance" = none
 str:mg "str" = none
 len:mg "len" = none
 max:mg "max" = none
 min:mg "min" = none
 sum:mg "sum" = none
 list:mg "list" = none
 reversed:mg "reversed" = none
 range:mg "range" = none
 tuple:mg "tuple" = none
 enumerate:mg "enumerate" = none
 set:mg "set" = none
 abs:mg "abs" = none
 int:mg "int" = none
 dict:mg "dict" = none
 zip:mg "zip" = none
structure Co (K:PySem.W.Frag) (mg:Str->Option Value):Prop where
 XR:GT2 K mg "WHATS" Qu
 OVER:Gs mg "OVER" "over"
 UNDER:Gs mg "UNDER" "under"
 EACH:Gs mg "EACH" "each"
 LETTERS:Gs mg "LETTERS" "abcdefghijklmnopqrstuvwxyz"
 z8:Gi mg "MOST_LETTERS" 8
 Fb:Gi mg "MOST_HANDS" 12
 zY:Gi mg "TRIPLES_SEEN" 3
 E_:Gi mg "MOST_POSTS" 5
local macro_rules | `(tactic| walk_at "o")=>`(tactic| first | exact Or.inl rfl | exact Or.inr rfl)
local macro_rules | `(tactic| walk_at "c")=>`(tactic| exact⟨rfl,rfl,rfl,by decide +kernel,rfl,by decide +kernel,by decide +kernel⟩)
local macro_rules | `(tactic| walk_at "rd")=>`(tactic| simp only[L2.start,nU,List.map_nil,ju,vO,Nat.reduceAdd,Nat.reduceSub,List.replicate,List.cons_append,List.nil_append,Ax,
 Hh,Hi,VP,VN,Ft,tW,fM,QC,N7,N6,Kg,Ob,if_true,if_false,Dy,Bool.not_true,Bool.not_false,Oa,N_,R1,RX,R0,RW,Oc,Od,Kh,N8,RZ,Wk,tC,Ry,tUn,Og,rI,rU,JR,V5,tOr,V0,QF,ZJ,VV,U4,kI,V3,oY,vK,tB,JW,tSl,Fq,Qy,Xm,VR,V1,Rv,rm,Qw,ZL,ZK,V4,Qz,QD,ipI,QB,V2,tFv,tJs,tJ1,tJ0,ZG,RC,Rx,xPe,VL,xIf,Zm,VH,Zt,xPs,Zo,Zr,Zk,VJ,Zq,Wn,Wq,RB,RT,Ah,Rz,JS,QT,Ai])
section
variable {P:Program} {w:World} {K:PySem.W.Frag} {mg:Str->Option Value} {base:Heap} {f:Addr} {fd:FuncData} {k:Nat}
theorem Bp {X:Cx}:mj X (binaryOp .FloorDiv) (rI (fun _ j=>0<j/\j<10 ^ 60) fun i j=>.int (i / j)):=WR fun i j _ _ _ _ _ hc q=>by
 have h1:(0:Int)<j:=hc.1;have h2:j<10 ^ 60:=hc.2;refine PyProof.Rows.floordiv_int (by omega) (by rw[Int.fdiv_eq_ediv_of_nonneg i (by omega)]; exact q) (.inl (PyProof.noPylong_of_log2 ?_))
 have:j.natAbs<10 ^ 60:=by omega
 by_cases z:j.natAbs=0
 ·omega
 ·have h3:j.natAbs<2 ^ 1000:=Bc this (by decide +kernel)
  have:=(Nat.log2_lt z).mpr h3;omega
structure jE where
 w:Str
 s:Nat
 g:Str
 n:Int
 t:Int
def yp (r:jE):PyData:=.tuple [.str r.w,.int r.s,.str r.g,.int r.n,.int r.t]
def ux (rs:List jE):PyData:=.tuple (rs.map yp)
def yl (iC:List (List jE)):PyData:=.tuple (iC.map ux)
structure vI (r:jE):Prop where
 w:r.w∈(["come","done","wait"]:List Str)
 s:1<=r.s/\r.s<=4
 n:0<=r.n/\r.n<=1000000000000
 e:r.g = "each" -> 1<=r.n
def cY (l:List Int):PyData:=.tuple (l.map .int)
def CW (dH:List (List Int)):PyData:=.tuple (dH.map cY)
structure oU (dH:List (List Int)):Prop where
 n:dH.length=4
 l:∀x∈dH,x.length=3
def wL (w:Str) (s:Nat) (dH:List (List Int)):Int:=((dH.take s).map fun l=>l.getD (ji w) 0).sum
def says (r:jE) (h:Int) (dH:List (List Int)):Option Int:=
 if r.g = "each" then some ((wL r.w r.s dH+r.n*r.s-1) / (r.n*r.s))
 else if(r.g = "over" /\ wL r.w r.s dH>r.n*r.s)\/(r.g = "under" /\ wL r.w r.s dH<r.n*r.s) then some (h+r.t) else none
def QS:Option Int->V
 | none=>.non
 | some i=>.int i
def kh (h:Int) (dH:List (List Int)):List jE->Int
 | []=>h
 | r::rs=>match says r h dH with
  | some i=>i
  | none=>kh h dH rs
def topOf (h:Int):List Int->Int
 | []=>h
 | b::r=>mZ b r
def q_ (iC:List (List jE)) (l m h:Int) (dH:List (List Int)):Int:=
 let x:=topOf h (iC.map (kh h dH))
 let y:=if l>x then l else x
 if m<y then m else y
theorem Ha (w:Str):ji w<3:=by
 unfold ji;split
 ·decide
 ·split <;> decide
theorem bB {H:Hp} {ds:List PyData} {v:V} (h:At H (.tuple ds) v):∃a xs,v=.ref a/\H a=some (.tup xs)/\aa H ds xs:=by unfold At at h; exact h
theorem aa.aM {H:Hp} {d:PyData} {ds:List PyData} {xs:List V} (h:aa H (d::ds) xs):∃x r,xs=x::r/\At H d x/\aa H ds r:=by unfold aa at h; exact h
theorem aa.gW {H:Hp} {xs:List V} (h:aa H [] xs):xs=[]:=by unfold aa at h; exact h
theorem dq {G:Hp}:∀{cs:List Int} {xs:List V},aa G (cs.map PyData.int) xs->xs=cs.map V.int
 | [],xs,h=>by unfold aa at h; exact h
 | c::cs,xs,h=>by
  obtain⟨x,r,rfl,h1,h2⟩:=aa.aM h;unfold At at h1;rw[h1,dq h2]; rfl
theorem cG {H:Hp}:∀cs:List Int,aa H (cs.map .int) (cs.map V.int)
 | []=>aa.nil
 | c::cs=>aa.cons (At.int c) (cG cs)
theorem row_shape {H:Hp} {r:jE} {v:V} (h:At H (yp r) v):∃a,v=.ref a/\H a=some (.tup [.str r.w,.int r.s,.str r.g,.int r.n,.int r.t]):=by
 obtain⟨a,xs,rfl,h1,h2⟩:=bB h;obtain⟨x1,_,rfl,a1,h2⟩:=aa.aM h2;obtain⟨x2,_,rfl,a2,h2⟩:=aa.aM h2;obtain⟨x3,_,rfl,a3,h2⟩:=aa.aM h2;obtain⟨x4,_,rfl,a4,h2⟩:=aa.aM h2;obtain⟨x5,_,rfl,a5,h2⟩:=aa.aM h2;cases aa.gW h2;unfold At at a1 a2 a3 a4 a5;subst a1 a2 a3 a4 a5;exact⟨a,rfl,h1⟩
theorem GP {K:PySem.W.Frag} {js:List Nat} {a:Addr} {xs:List V} {ds:List PyData} {f:Nat->Int} {tl te:TE} {σ:St} {H:Hp} {Q:VK} (hl:∀R:VK,R (.ref a) H->tl σ H R) (ha:H a=some (.tup xs)) (hd:aa H ds xs) (hz:ds.length<=sizeLine)
  (step:∀(i:Nat) x d H',aL H H'->ds[i]?=some d->At H' d x->∀R:VK,(∀qj,aL H' qj->R (.int (f i)) qj)->te (some x::cH js σ) H' R)
  (fin:∀acc H',aL H H'->H' acc=some (.lst (((List.range ds.length).map f).map V.int))->Q (.ref acc) H'):ir js (IK K tl) te σ H Q:=by
 refine hl _ ⟨a,rfl,⟨xs,fW.of ha⟩,fun acc hacc=>?_⟩;have hlen:=hd.length;refine⟨fun i m ys H2=>m=ds.length-i/\i<=ds.length/\ys=((List.range i).map f).map V.int/\aL H H2/\H2 acc=some (.lst ys),⟨_,rfl,iY _,rfl,aN hacc _,aA⟩,?_⟩;rintro i m ys H2 ⟨rfl,hi,rfl,sm,hy⟩;have ht:fW K H2 a xs:=fW.of (sm _ _ ha);by_cases hlt:i<ds.length
 ·refine .inr ⟨⟨xs,xs[i]'(by omega),ht,gG (by omega)⟩,fun x H3 y=>?_⟩
  obtain⟨e,y⟩:=y;subst e;obtain⟨d,e1,e2⟩:=hd.get (y xs ht);refine step i x d _ sm e1 (e2.mono sm) _ fun H4 s4=>⟨s4 _ _ hy,?_,ds.length-(i+1),by omega,rfl,hlt,?_,?_,aA⟩
  ·rw[cT,cT,List.length_range]; omega
  ·rw[List.range_succ]; simp
  ·refine fun b o q=>?_;have nb:b≠acc:=cC q hacc;rw[aJ nb];exact s4 _ _ (sm _ _ q)
 ·have e:i=ds.length:=by omega
  subst e;exact .inl ⟨⟨xs,ht,by omega⟩,fin _ _ sm hy⟩
def CT (K:PySem.W.Frag) (js:List Nat) (te:TE) (σ:St) (Q:VK) (x:V) (H1:Hp):Prop:=ir js (IK K (fun _ H R=>R x H)) te σ H1 Q
theorem wN {K:PySem.W.Frag} {js:List Nat} {tl te:TE} {σ:St} {H:Hp} {Q:VK}:ir js (IK K tl) te σ H Q=tl σ H (CT K js te σ Q):=rfl
def Dh:Sp:=fun vs H Q _=>∃(v u:V) (h:Int) (r:jE) (dH:List (List Int)),vs=[v,.int h,u]/\At H (yp r) v/\At H (CW dH) u/\vI r/\oU dH/\∀H',aL H H'->Q (QS (says r h dH)) H'
theorem abi.of {v u:V} {h:Int} {r:jE} {dH:List (List Int)} {H:Hp} {Q:VK} {E:XK} (a1:At H (yp r) v) (a2:At H (CW dH) u) (h1:vI r) (h2:oU dH) (q:∀H',aL H H'->Q (QS (says r h dH)) H'):Dh ([v,.int h,u]++[]) H Q E:=⟨v,u,h,r,dH,rfl,a1,a2,h1,h2,q⟩
theorem vL {dH:List (List Int)} {w:Str} {s:Nat}:((List.range (dH.take s).length).map fun i=>((dH.take s).getD i []).getD (ji w) 0).sum=wL w s dH:=by
 unfold wL
 congr 1
 generalize dH.take s=l
 apply List.ext_getElem
 ·simp
 ·intro i h1 h2;simp at h1 h2;simp[nQ,h2]
theorem rn:aR ["row","hands","newest","what","span","sign","number","step","place","total","mark"] ["row","hands","newest"] (aC nJ):=(by walk_at "c")
theorem Bq (F:jh K "row_says" "row_says" nJ f fd) (B:Bi mg) (O:Co K mg):bD P w K mg base fY (k+1) f fd ["row","hands","newest"] Dh:=by
 refine F.ok rn (by rintro vs H Q E ⟨v,u,h,r,dH,rfl,_⟩; rfl) (fun cdv A outer s H vs Q E hr h=>?_)
 obtain⟨v,u,h,r,dH,rfl,a1,a2,hR,hN,q⟩:=h;have ND:=rn.nd;refine⟨_,(aq (eE (pv 0) (bT (K:=K) (n:=5) rfl rfl (aG (aF (i:=3) ND rfl (by walk_at "o")) (aG (aF (i:=4) ND rfl (by walk_at "o")) (aG (aF (i:=5) ND rfl (by walk_at "o")) (aG (aF (i:=6) ND rfl (by walk_at "o")) (aG (aF (i:=7) ND rfl (by walk_at "o")) bQ))))))) (aq (aQ (i:=8) ND rfl (by walk_at "o") (gU (K:=K) rfl PySem.F.plainAttrs_tuple PySem.F.slot_tuple_index PySem.F.type_tuple_index (Il (K:=K) rfl) (Ox (K:=K) rfl O.XR) (ak (pv 3) aj))) (aq (aQ (i:=9) ND rfl (by walk_at "o") (pb (il rfl) B.sum qU (ak (cP (N':=["triple","place"]) (js:=[8]) rfl (yE (K:=K) rfl (eQ jT (pv 2) gf (gb (pv 4)))) qt.mk1 rfl (by decide) rfl (fun fp s' H'=>(bw bf (pv 0) (pv 1) (fun _ _=>rfl)))) aj))) (aq (aQ (i:=10) ND rfl (by walk_at "o") (aO jy (pv 6) (pv 4))) (aq (di (aZ gJ (pv 5) (yF O.EACH) (bh _)) (aH (aY (aO Bp (aO jx (aO bA (pv 9) (pv 10)) ao) (pv 10)))) bM) (aq (di (PW.pt (Bk (PW.pt (yx (aZ gJ (pv 5) (yF O.OVER) (bh _)) (sW (aZ Bo (pv 9) (pv 10) (bh _))))) (uE (PW.pt (yx (aZ gJ (pv 5) (yF O.UNDER) (bh _)) (sW (aZ uM (pv 9) (pv 10) (bh _)))))))) (aH (aY (aO bA (pv 1) (pv 7)))) bM) (aH (aY gR)))))))),?_⟩
 obtain⟨a,rfl,h1⟩:=row_shape a1;obtain⟨b,xs,rfl,h2,h3⟩:=bB a2;walk_at "rd";refine⟨a,_,rfl,fW.of h1,rfl,?_⟩;walk_at "rd";intro aw ho hw;refine⟨.inr (.inl ⟨rfl,ho⟩),aw,r.w,rfl,hw _,rfl,hR.w,?_⟩;show ir _ _ _ _ _ _;rw[wN];walk_at "rd";refine⟨b,xs,rfl,h2,fun p H1 s1 e1=>?_⟩;rw[zH (by omega),vP] at e1
 have h3':aa H1 ((dH.take r.s).map cY) (xs.take r.s):=by rw[List.map_take]; exact(h3.take r.s).mono s1
 have hs4:=hR.s;have htl:(dH.take r.s).length<=4:=by rw[lH]; omega
 refine GP (a:=p) (f:=fun i=>((dH.take r.s).getD i []).getD (ji r.w) 0) (fun R hR=>hR) e1 h3' (pH (aW (by rw[cT]; omega))) (fun i x d H' s' ed hx R hR'=>?_) (fun acc H' s' hl=>?_)
 ·rw[dw] at ed;obtain⟨l,el,rfl⟩:=yw.mp ed;have l3:l.length=3:=hN.l l (DK (oh el));obtain⟨c,ys,rfl,g1,g2⟩:=bB hx;cases dq g2;show Ry _ _ _ [some _,some (.int (ji r.w:Nat))] H' R;walk_at "rd";have hw:=Ha r.w;refine Ix.tup g1 (v:=.int (l.getD (ji r.w) 0)) (aU (by rw[dw,gG (by omega),nQ,gG (by omega)]; rfl)) ?_
  have:=hR' H' (aL.refl H');have eg:(dH.take r.s).getD i []=l:=by rw[nQ,el]; rfl
  rw[eg] at this;exact this
 ·have sm:=s1.trans s';rw[cT] at hl;refine⟨acc,_,rfl,.inl hl,.inl (by have:=hR.n; omega),?_⟩
  rw[vL];have q1:=q H' sm;unfold says at q1;refine eF (fun c1=>?_) (fun c1=>?_)
  ·have c1':=yt c1;rw[a_ c1'] at q1;have h1n:=hR.e c1';have hpos:0<r.n*(r.s:Int):=Int.mul_pos (by omega) (by omega)
   have hup:r.n*(r.s:Int)<=1000000000000*4:=Int.mul_le_mul hR.n.2 (by omega) (by omega) (by decide)
   exact⟨⟨hpos,Int.lt_of_le_of_lt hup (by decide)⟩,q1⟩
  ·have c1':=Hx c1;rw[aV c1'] at q1;generalize wL r.w r.s dH=tot at q1 ⊢;generalize r.n*(r.s:Int)=mark at q1 ⊢;by_cases o1:r.g = "over"
   ·have u1:¬r.g = "under" := by rw[o1]; decide +kernel
    rw[nW o1,a_ rfl];by_cases o2:mark<tot
    ·rw[nW o2,a_ rfl];rw[a_ (.inl ⟨o1,o2⟩)] at q1; exact q1
    ·rw[lG o2,aV (by decide),lG u1,aV (by decide)]
     rw[aV (fun z=>by rcases z with z | z; exact o2 z.2; exact u1 z.1)] at q1; exact q1
   ·rw[lG o1,aV (by decide)]
    by_cases u1:r.g = "under"
    ·rw[nW u1,a_ rfl];by_cases o2:tot<mark
     ·rw[nW o2,a_ rfl];rw[a_ (.inr ⟨u1,o2⟩)] at q1; exact q1
     ·rw[lG o2,aV (by decide)]
      rw[aV (fun z=>by rcases z with z | z; exact o1 z.1; exact o2 z.2)] at q1; exact q1
    ·rw[lG u1,aV (by decide)]
     rw[aV (fun z=>by rcases z with z | z; exact o1 z.1; exact u1 z.1)] at q1; exact q1
def RL:Sp:=fun vs H Q _=>∃(v u:V) (h:Int) (rs:List jE) (dH:List (List Int)),vs=[v,.int h,u]/\At H (ux rs) v/\At H (CW dH) u/\(∀r∈rs,vI r)/\oU dH/\∀H',aL H H'->Q (.int (kh h dH rs)) H'
theorem Rw.of {v u:V} {h:Int} {rs:List jE} {dH:List (List Int)} {H:Hp} {Q:VK} {E:XK} (a1:At H (ux rs) v) (a2:At H (CW dH) u) (h1:∀r∈rs,vI r) (h2:oU dH) (q:∀H',aL H H'->Q (.int (kh h dH rs)) H'):RL ([v,.int h,u]++[]) H Q E:=⟨v,u,h,rs,dH,rfl,a1,a2,h1,h2,q⟩
theorem ph:aR ["rule","hands","newest","row","said"] ["rule","hands","newest"] (aC lB):=(by walk_at "c")
theorem yO (F:jh K "rule_wish" "rule_wish" lB f fd) (oN:Ct P w K mg base k "row_says" ["row","hands","newest"] Dh):bD P w K mg base fY (k+1) f fd ["rule","hands","newest"] RL:=by
 refine F.ok ph (by rintro vs H Q E ⟨v,u,h,r,dH,rfl,_⟩; rfl) (fun cdv A outer s H vs Q E hr h=>?_)
 obtain⟨v,u,h,rs,dH,rfl,a1,a2,hR,hN,q⟩:=h;have ND:=ph.nd;refine⟨_,(aq (gP PassesOwn.never rfl (yE (K:=K) rfl (pv 0)) (aF (i:=3) ND rfl (by walk_at "o")) (aq (aQ (i:=4) ND rfl (by walk_at "o") (pf oN hr (ak (pv 3) (ak (pv 1) (ak (pv 2) aj))))) (aH (di (aZ sX (pv 4) gR (bh _)) (aH (aY (pv 4))) bM)))) (aH (aY (pv 1)))),?_⟩
 obtain⟨a,xs,rfl,h1,h2⟩:=bB a1;have hlen:=h2.length;rw[cT] at hlen;walk_at "rd";rw[JT];walk_at "rd";refine TK.of h1 (fun n σ H'=>∃o1 o2,σ=[some (.ref a),some (.int h),some u,o1,o2]/\aL H H'/\kh h dH (rs.drop n)=kh h dH rs) ⟨_,_,rfl,aL.refl H,rfl⟩ (fun n σ H' _ ⟨o1,o2,_,sm,_⟩=>sm _ _ h1) ?_ ?_
 ·rintro n x σ H1 hx ⟨o1,o2,rfl,sm,e⟩;obtain⟨d,e1,e2⟩:=h2.get hx;rw[dw] at e1;obtain⟨r,er,rfl⟩:=yw.mp e1
  have hn:n<rs.length:=by
   obtain⟨z,_⟩:=eN.mp er; exact z
  have ed:rs.drop n=r::rs.drop (n+1):=by
   rw[Hz hn];obtain⟨z,ez⟩:=eN.mp er;rw[ez]
  rw[ed,kh] at e;walk_at "rd";refine abi.of (e2.mono sm) (a2.mono sm) (hR r (oh er)) hN fun H2 s2=>?_;have s2:=sm.trans s2;cases es:says r h dH with
  | none=>
   rw[es] at e;refine⟨trivial,?_⟩;exact⟨_,_,rfl,s2,e⟩
  | some i=>
   rw[es] at e;refine⟨trivial,?_⟩;have e:i=kh h dH rs:=e;show Q (.int i) H2;rw[e]; exact q H2 s2
 ·rintro σ H1 ⟨o1,o2,rfl,sm,e⟩;walk_at "rd";rw[hlen,Du] at e;have e:h=kh h dH rs:=e;rw[e];have:=q H1 sm;rw[<- e] at this ⊢;exact this
def Kw (d0 d1 d3 d4 d5:PyData) (l m:Int) (iC:List (List jE)):PyData:=.tuple [d0,d1,.tuple [.int l,.int m],d3,d4,d5,yl iC]
def J1:Sp:=fun vs H Q _=>∃(v u:V) (h l m:Int) (d0 d1 d3 d4 d5:PyData) (iC:List (List jE)) (dH:List (List Int)),vs=[v,.int h,u]/\At H (Kw d0 d1 d3 d4 d5 l m iC) v/\At H (CW dH) u/\(∀rs∈iC,∀r∈rs,vI r)/\iC.length<=100/\oU dH /\
 ∀H',aL H H'->Q (.int (q_ iC l m h dH)) H'
theorem FW:aR ["post","hands","newest","least","most","wishes","wished"] ["post","hands","newest"] (aC Dl):=(by walk_at "c")
theorem O_ (F:jh K "wish" "wish" Dl f fd) (B:Bi mg) (lX:Ct P w K mg base k "rule_wish" ["rule","hands","newest"] RL):bD P w K mg base fY (k+1) f fd ["post","hands","newest"] J1:=by
 refine F.ok FW (by rintro vs H Q E ⟨v,u,h,l,m,d0,d1,d3,d4,d5,iC,dH,rfl,_⟩; rfl) (fun cdv A outer s H vs Q E hr h=>?_)
 obtain⟨v,u,h,l,m,d0,d1,d3,d4,d5,iC,dH,rfl,a1,a2,hR,hn,hN,q⟩:=h;have ND:=FW.nd;refine⟨_,(aq (eE (bw bf (pv 0) ao (fun _ _=>rfl)) (bT (K:=K) (n:=2) rfl rfl (aG (aF (i:=3) ND rfl (by walk_at "o")) (aG (aF (i:=4) ND rfl (by walk_at "o")) bQ)))) (aq (Oq (i:=5) ND rfl (by walk_at "o") (N':=["rule","hands","newest"]) (js:=[1,2]) rfl (yE (K:=K) rfl (bw bf (pv 0) ao (fun _ _=>rfl))) qt.mk2 rfl (by decide) rfl (fun fp s' H'=>(pf lX hr (ak (pv 0) (ak (pv 1) (ak (pv 2) aj)))))) (aq (aQ (i:=6) ND rfl (by walk_at "o") (O1 rfl B.max (ak (pv 5) aj) (pv 1))) (aH (aY (pb (fj rfl) B.min lZ (ak (pb (fV rfl) B.max l_ (ak (pv 6) (ak (pv 3) aj))) (ak (pv 4) aj)))))))),?_⟩
 obtain⟨a,xs,rfl,h1,h2⟩:=bB a1;obtain⟨x0,_,rfl,b0,h2⟩:=aa.aM h2;obtain⟨x1,_,rfl,b1,h2⟩:=aa.aM h2;obtain⟨x2,_,rfl,b2,h2⟩:=aa.aM h2;obtain⟨x3,_,rfl,b3,h2⟩:=aa.aM h2;obtain⟨x4,_,rfl,b4,h2⟩:=aa.aM h2;obtain⟨x5,_,rfl,b5,h2⟩:=aa.aM h2;obtain⟨x6,_,rfl,b6,h2⟩:=aa.aM h2;cases aa.gW h2;obtain⟨c,ys,rfl,g1,g2⟩:=bB b2;obtain⟨y0,_,rfl,k0,g2⟩:=aa.aM g2;obtain⟨y1,_,rfl,k1,g2⟩:=aa.aM g2;cases aa.gW g2;unfold At at k0 k1;subst k0 k1;obtain⟨e,zs,rfl,m1,m2⟩:=bB b6;walk_at "rd";refine Ix.tup h1 (aU (j:=2) rfl) ⟨c,_,rfl,fW.of g1,rfl,?_⟩;walk_at "rd";rw[wN];walk_at "rd";refine Ix.tup h1 (aU (j:=6) rfl) ?_;refine GP (a:=e) (f:=fun i=>kh h dH (iC.getD i [])) (fun R hR=>hR) m1 m2 (pH (aW (by rw[cT]; omega))) (fun i x d H' s' ed hx R hR'=>?_) (fun acc H' s' hl=>?_)
 ·rw[dw] at ed;obtain⟨rs,el,rfl⟩:=yw.mp ed;show kI _ _ _ _ [some x,some (.int h),some u] H' R;walk_at "rd";refine Rw.of hx (a2.mono s') (hR rs (oh el)) hN fun H2 s2=>?_;have:=hR' H2 s2;have eg:iC.getD i []=rs:=by rw[nQ,el]; rfl
  rw[eg] at this;exact this
 ·rw[cT] at hl
  have el:(List.range iC.length).map (fun i=>kh h dH (iC.getD i []))=iC.map (kh h dH):=by
   apply List.ext_getElem
   ·simp
   ·intro i h1 h2;simp at h1 h2;simp[nQ,h2]
  rw[el] at hl;have q1:=q H' s';unfold q_ topOf at q1;refine⟨acc,_,rfl,hl,fun en=>?_,fun b r er=>?_⟩
  ·rw[en] at q1;exact q1
  ·rw[er] at q1;exact q1
def oZ:Sp:=fun vs H Q _=>∃(v x:V) (a:Addr) (r:Int) (b:Addr) (ns:List Int) (u:List V),v=.ref a/\vs=[v]/\H a=some (.tup (x::.int r::.ref b::u))/\H b=some (.tup (ns.map V.int))/\Q (.int (r+ns.sum)) H
theorem rB:aR ["stand"] ["stand"] (aC nP):=(by walk_at "c")
theorem Bs (F:jh K "hands_of" "hands_of" nP f fd) (B:Bi mg):bD P w K mg base fY (k+1) f fd ["stand"] oZ:=by
 refine F.ok rB (by rintro vs H Q E ⟨v,x,a,r,b,ns,u,_,rfl,_⟩; rfl) (fun cdv A outer s H vs Q E hr h=>?_)
 obtain⟨v,x,a,r,b,ns,u,rfl,rfl,h1,h2,q⟩:=h;have ND:=rB.nd;refine⟨_,(aH (aY (aO bA (bw bf (pv 0) ao (fun _ _=>rfl)) (pb (il rfl) B.sum qU (ak (bw bf (pv 0) ao (fun _ _=>rfl)) aj))))),?_⟩;walk_at "rd";refine⟨a,_,1,_,rfl,rfl,.inr h1,aU (j:=1) rfl,?_⟩;refine⟨a,_,2,_,rfl,rfl,.inr h1,aU (j:=2) rfl,?_⟩;refine⟨b,ns,rfl,.inr h2,?_⟩;exact⟨_,_,rfl,rfl,q⟩
theorem Ly {X:Cx}:XX X (fun o i H Q=>∃(p:Addr) (xs:List V) (j:Nat) (v:V),o=.ref p/\i=.int j/\H p=some (.lst xs)/\xs[j]?=some v/\Q v H):=by
 intro pins s σ H o i ov iv Q I ro ri h;obtain⟨p,xs,j,v,rfl,rfl,hp,hv,q⟩:=h;cases ro;obtain⟨t,rfl⟩:=ri;obtain⟨its,r,pl,hz⟩:=I.list (cV.of (K:=X.K) hp);obtain⟨w,ew,Ao⟩:=r.get hv;have hl:=r.length;have hn:=oG;have hj:j<xs.length:=by obtain⟨z,_⟩:=eN.mp hv; exact z
 exact wpAny_getItem_list pl.isList (by omega) (by omega) (by simpa using ew) ⟨v,H,I,Ao,q⟩
theorem Pr {n j:Nat} (h:j<n):Pu n (j:Int)=some j:=by
 unfold Pu;rw[a_ (by omega),a_ (by omega),vP]
structure dY where
 w:Int
 r:Int
 cs:List Int
 s:Int
 t:Int
 us:List (List Int)
def jR (x:dY):PyData:=.tuple [.int x.w,.int x.r,.tuple (x.cs.map .int),.int x.s,.int x.t,.tuple (x.us.map cY)]
structure qZ (x:dY):Prop where
 c:x.cs.length=5
 u:x.us.length=3
 l:∀y∈x.us,y.length=3
structure fu where
 p:Int
 m:Int
 lo:Int
 hi:Int
 a:Nat
 e:Int
 u:Int
 d:Int
 iC:List (List jE)
def gZ (x:fu):PyData:=Kw (.int x.p) (.int x.m) (.int x.a) (.int x.e) (.tuple [.int x.u,.int x.d]) x.lo x.hi x.iC
structure zZ (x:fu):Prop where
 a:x.a<=4
 p:0<=x.p/\x.p<=1000000
 n:x.iC.length<=100
 g:∀rs∈x.iC,∀r∈rs,vI r
theorem qK {H:Hp} {x:fu} {v:V} (h:At H (gZ x) v):∃a b c d,v=.ref a/\H a=some (.tup [.int x.p,.int x.m,.ref b,.int x.a,.int x.e,.ref c,.ref d])/\H c=some (.tup [.int x.u,.int x.d]):=by
 obtain⟨a,xs,rfl,h1,h2⟩:=bB h;obtain⟨x0,_,rfl,b0,h2⟩:=aa.aM h2;obtain⟨x1,_,rfl,b1,h2⟩:=aa.aM h2;obtain⟨x2,_,rfl,b2,h2⟩:=aa.aM h2;obtain⟨x3,_,rfl,b3,h2⟩:=aa.aM h2;obtain⟨x4,_,rfl,b4,h2⟩:=aa.aM h2;obtain⟨x5,_,rfl,b5,h2⟩:=aa.aM h2;obtain⟨x6,_,rfl,b6,h2⟩:=aa.aM h2;cases aa.gW h2;unfold At at b0 b1 b3 b4;subst b0 b1 b3 b4;obtain⟨b,ys,rfl,_,_⟩:=bB b2;obtain⟨c,zs,rfl,g1,g2⟩:=bB b5;obtain⟨d,ws,rfl,_,_⟩:=bB b6;obtain⟨y0,_,rfl,k0,g2⟩:=aa.aM g2;obtain⟨y1,_,rfl,k1,g2⟩:=aa.aM g2;cases aa.gW g2;unfold At at k0 k1;subst k0 k1;exact⟨a,b,c,d,rfl,h1,g1⟩
theorem mC {H:Hp} {x:dY} {v:V} (h:At H (jR x) v):∃a b c,v=.ref a/\H a=some (.tup [.int x.w,.int x.r,.ref b,.int x.s,.int x.t,.ref c])/\H b=some (.tup (x.cs.map V.int))/\At H (.tuple (x.us.map cY)) (.ref c):=by
 obtain⟨a,xs,rfl,h1,h2⟩:=bB h;obtain⟨x0,_,rfl,b0,h2⟩:=aa.aM h2;obtain⟨x1,_,rfl,b1,h2⟩:=aa.aM h2;obtain⟨x2,_,rfl,b2,h2⟩:=aa.aM h2;obtain⟨x3,_,rfl,b3,h2⟩:=aa.aM h2;obtain⟨x4,_,rfl,b4,h2⟩:=aa.aM h2;obtain⟨x5,_,rfl,b5,h2⟩:=aa.aM h2;cases aa.gW h2;unfold At at b0 b1 b3 b4;subst b0 b1 b3 b4;obtain⟨b,ys,rfl,g1,g2⟩:=bB b2;cases dq g2;obtain⟨c,zs,rfl,_,_⟩:=bB b5;exact⟨a,b,c,rfl,h1,g1,b5⟩
def yf (e s:Int):Int:=if s+1<e then s+1 else 0
def y_ (e s t:Int):Bool:=if s+1<e then false else decide (t=0)
def FJ:Sp:=fun vs H Q _=>∃(v:V) (x:fu) (s t:Int),vs=[v,.int s,.int t]/\At H (gZ x) v/\∀p H',aL H H'->H' p=some (.tup [.int (yf x.e s),.bl (y_ x.e s t)])->Q (.ref p) H'
theorem jc:aR ["post","since","rest","every"] ["post","since","rest"] (aC fP):=(by walk_at "c")
theorem pK (F:jh K "since_and_look" "since_and_look" fP f fd):bD P w K mg base fY (k+1) f fd ["post","since","rest"] FJ:=by
 refine F.ok jc (by rintro vs H Q E ⟨v,x,s,t,rfl,_⟩; rfl) (fun cdv A outer s H vs Q E hr h=>?_)
 obtain⟨v,x,sn,t,rfl,a1,q⟩:=h;have ND:=jc.nd;refine⟨_,(aq (aQ (i:=3) ND rfl (by walk_at "o") (bw bf (pv 0) ao (fun _ _=>rfl))) (aq (di (aZ uM (aO bA (pv 1) ao) (pv 3) (bh _)) (aH (aY (bj (ak (aO bA (pv 1) ao) (ak uL aj))))) bM) (aH (aY (bj (ak ao (ak (gk gJ (pv 2) ao (bh _)) aj))))))),?_⟩
 obtain⟨a,b,c,d,rfl,h1,h2⟩:=qK a1;walk_at "rd";refine Ix.tup h1 (aU (j:=4) rfl) ?_;walk_at "rd";refine eF (fun c1=>?_) (fun c1=>?_)
 ·have c1':=yt c1;refine⟨(by decide),fun p H1 f1 s1 e1=>q p H1 s1 ?_⟩
  unfold yf y_;rw[a_ c1',a_ c1']; exact e1
 ·have c1':=Hx c1;refine⟨(by decide),fun p H1 f1 s1 e1=>q p H1 s1 ?_⟩
  unfold yf y_;rw[aV c1',aV c1']; exact e1
def tK (x:fu) (h fr:Int) (dH:List (List Int)):Int:=if fr<q_ x.iC x.lo x.hi h dH-h then fr else q_ x.iC x.lo x.hi h dH-h
def Ak:Sp:=fun vs H Q _=>∃(v u:V) (x:fu) (h fr:Int) (dH:List (List Int)),vs=[v,.int h,u,.int fr]/\At H (gZ x) v/\At H (CW dH) u/\zZ x/\oU dH/\∀H',aL H H'->Q (.int (tK x h fr dH)) H'
theorem pq:aR ["post","hands","newest","free"] ["post","hands","newest","free"] (aC lC):=(by walk_at "c")
theorem yP (F:jh K "change_of" "change_of" lC f fd) (B:Bi mg) (Eu:Ct P w K mg base k "wish" ["post","hands","newest"] J1):bD P w K mg base fY (k+1) f fd ["post","hands","newest","free"] Ak:=by
 refine F.ok pq (by rintro vs H Q E ⟨v,u,x,h,fr,dH,rfl,_⟩; rfl) (fun cdv A outer s H vs Q E hr h=>?_)
 obtain⟨v,u,x,h,fr,dH,rfl,a1,a2,hP,hN,q⟩:=h;have ND:=pq.nd;refine⟨_,(aH (aY (pb (fj rfl) B.min lZ (ak (aO jx (pf Eu hr (ak (pv 0) (ak (pv 1) (ak (pv 2) aj)))) (pv 1)) (ak (pv 3) aj))))),?_⟩;walk_at "rd";refine⟨v,u,h,x.lo,x.hi,_,_,_,_,_,x.iC,dH,rfl,a1,a2,hP.g,hP.n,hN,fun H1 s1=>?_⟩;walk_at "rd";exact q H1 s1
def bx:List Int->Int->List Int×Int
 | [],n=>([],n)
 | c::cs,n=>((c-(if(bx cs n).2<c then(bx cs n).2 else c))::(bx cs n).1,(bx cs n).2-(if(bx cs n).2<c then(bx cs n).2 else c))
theorem oH:∀(cs:List Int) (n:Int),(bx cs n).1.length=cs.length
 | [],_=>rfl
 | c::cs,n=>by rw[bx,ju,ju,oH cs n]
def J4:Sp:=fun vs H Q _=>∃(r n:Int) (b:Addr) (cs:List Int),vs=[.int r,.ref b,.int n]/\H b=some (.tup (cs.map V.int))/\cs.length<=100/\∀p b' H',aL H H'->H' p=some (.tup [.int (r-(bx cs n).2),.ref b'])->H' b'=some (.tup ((bx cs n).1.map V.int))->Q (.ref p) H'
theorem o_:aR ["ready","called","many","left","place","gone"] ["ready","called","many"] (aC lA):=(by walk_at "c")
theorem yN (F:jh K "sent_home" "sent_home" lA f fd) (B:Bi mg):bD P w K mg base fY (k+1) f fd ["ready","called","many"] J4:=by
 refine F.ok o_ (by rintro vs H Q E ⟨r,n,b,cs,rfl,_⟩; rfl) (fun cdv A outer s H vs Q E hr h=>?_)
 obtain⟨r,n,b,cs,rfl,h1,hlen,q⟩:=h;have ND:=o_.nd;refine⟨_,(aq (aQ (i:=3) ND rfl (by walk_at "o") (pt (Jj) B.list zU (ak (pv 1) aj))) (aq (gP PassesOwn.never rfl (R8 B.reversed B.range (ak (pb (cX (K:=K) rfl) B.len eZ (ak (pv 3) aj)) aj)) (aF (i:=4) ND rfl (by walk_at "o")) (aq (aQ (i:=5) ND rfl (by walk_at "o") (pb (fj rfl) B.min lZ (ak (bw bf (pv 3) (pv 4) (fun _ _=>rfl)) (ak (pv 2) aj)))) (aq (Ot (pv 3) (pv 4) Ly (pv 5) Ej set_list) (aH (yC (i:=2) ND rfl (by walk_at "o") (pv 5) Ej))))) (aH (aY (bj (ak (aO jx (pv 0) (pv 2)) (ak (pt (jP) B.tuple lY (ak (pv 3) aj)) aj))))))),?_⟩
 walk_at "rd";refine⟨b,_,rfl,h1,fun p1 f1=>?_⟩;have s1:=aN f1 (HO.lst (cs.map V.int));have e1:upd H p1 (HO.lst (cs.map V.int)) p1=some (.lst (cs.map V.int)):=aA;generalize upd H p1 (HO.lst (cs.map V.int))=H1 at s1 e1 ⊢;rw[JV];walk_at "rd";refine⟨p1,_,rfl,.inl (cV.of e1),?_⟩;rw[cT];refine Y_.of (n:=cs.length) rfl (by omega) (fun i σ H'=>∃o4 o5:Option V,σ=[some (.int r),some (.ref b),some (.int (bx (cs.drop (cs.length-i)) n).2),some (.ref p1),o4,o5]/\H' p1=some (.lst ((cs.take (cs.length-i)++(bx (cs.drop (cs.length-i)) n).1).map V.int))/\aL H H')
  ⟨_,_,by rw[Nat.sub_zero,Du]; rfl,by rw[Nat.sub_zero,Du,nY]; simpa[bx] using e1,s1⟩ ?_ ?_
 ·rintro i σ H2 hi ⟨o4,o5,rfl,h2,s2⟩;obtain⟨j,ej⟩:∃j:Nat,cs.length-i=j+1:=⟨cs.length-i-1,by omega⟩
  have ej2:cs.length-(i+1)=j:=by omega
  have ei:(cs.length:Int)-1-(i:Nat)=(j:Nat):=by omega
  rw[ej] at h2;rw[ei,ej,ej2];have hj:j<cs.length:=by omega
  have dj:cs.drop j=cs[j]::cs.drop (j+1):=Hz hj;have tj:cs.take (j+1)=cs.take j++[cs[j]]:=by rw[List.take_succ,gG hj]; rfl
  rw[dj,bx];generalize bx (cs.drop (j+1)) n=gh at h2 ⊢;rw[tj] at h2;generalize cs[j]=cj at h2 ⊢;have lt:(cs.take j).length=j:=by rw[lH]; omega
  have gj:((cs.take j++[cj]++gh.1).map V.int)[j]?=some (.int cj):=by
   rw[dw,Hw,HH (by omega),lt,Bd]; rfl
  walk_at "rd";refine Ix.lst h2 (aU gj) ?_;walk_at "rd";refine⟨p1,_,j,_,rfl,rfl,h2,gj,?_⟩;walk_at "rd";refine⟨p1,_,_,j,rfl,rfl,h2,Pr (by rw[cT,dh,dh,lt]; show j<j+1+_; omega),?_⟩
  refine⟨_,rfl,_,_,rfl,rfl,_,_,rfl,?_,fun z o w=>?_⟩
  ·rw[aA]
   congr 2
   have e:cs.take j++[cj]++gh.1=cs.take j++(cj::gh.1):=by simp
   rw[e,jK,jK,List.set_append_right _ _ (by rw[cT]; omega),cT,lt,Bd]
   rfl
  ·rw[aJ (cC w f1)];exact s2 _ _ w
 ·rintro σ H2 ⟨o4,o5,rfl,h2,s2⟩;rw[Bd,List.drop_zero,List.take_zero,List.nil_append] at h2;rw[Bd,List.drop_zero];walk_at "rd";refine⟨p1,_,rfl,h2,fun p3 f3=>?_⟩;have s3:=aN f3 (HO.tup ((bx cs n).1.map V.int));have e3:upd H2 p3 (HO.tup ((bx cs n).1.map V.int)) p3=some (.tup ((bx cs n).1.map V.int)):=aA;generalize upd H2 p3 (HO.tup ((bx cs n).1.map V.int))=H3 at s3 e3 ⊢;refine⟨(by decide),fun p4 H4 f4 s4 e4=>?_⟩
  exact q p4 p3 H4 (s2.trans (s3.trans s4)) e4 (s4 _ _ e3)
def gA (x:fu) (st:dY) (ch:Int):dY:=
 if ch=0 then st else if 0<ch then { st with cs:=st.cs.take x.a++[st.cs.getD x.a 0+ch]++st.cs.drop (x.a+1),t:=x.u }
 else { st with r:=st.r-(bx st.cs (-ch)).2,cs:=(bx st.cs (-ch)).1,t:=x.d }
def Dg:Sp:=fun vs H Q _=>∃(v u:V) (x:fu) (st:dY) (ch:Int),vs=[v,u,.int ch]/\At H (gZ x) v/\At H (jR st) u/\zZ x/\qZ st/\∀u' H',aL H H'->At H' (jR (gA x st ch)) u'->Q u' H'
theorem kJ:aR ["post","stand","change","late","rests","wait","ready","called","since","rest","seen"] ["post","stand","change"] (aC jj):=(by walk_at "c")
theorem uN (F:jh K "with_change" "with_change" jj f fd) (B:Bi mg) (lW:Ct P w K mg base k "sent_home" ["ready","called","many"] J4):bD P w K mg base fY (k+1) f fd ["post","stand","change"] Dg:=by
 refine F.ok kJ (by rintro vs H Q E ⟨v,u,x,st,ch,rfl,_⟩; rfl) (fun cdv A outer s H vs Q E hr h=>?_)
 obtain⟨v,u,x,st,ch,rfl,a1,a2,hP,hS,q⟩:=h;have ND:=kJ.nd;refine⟨_,(aq (di (aZ gJ (pv 2) ao (bh _)) (aH (aY (pv 1))) bM) (aq (qL (i:=3) (j:=4) rfl ND rfl rfl (by decide) rfl rfl (ak (bw bf (pv 0) ao (fun _ _=>rfl)) (ak (bw bf (pv 0) ao (fun _ _=>rfl)) aj)) (by rfl)) (aq (eE (pv 1) (bT (K:=K) (n:=6) rfl rfl (aG (aF (i:=5) ND rfl (by walk_at "o")) (aG (aF (i:=6) ND rfl (by walk_at "o")) (aG (aF (i:=7) ND rfl (by walk_at "o")) (aG (aF (i:=8) ND rfl (by walk_at "o")) (aG (aF (i:=9) ND rfl (by walk_at "o")) (aG (aF (i:=10) ND rfl (by walk_at "o")) bQ)))))))) (aq (di (aZ Bo (pv 2) ao (bh _)) (aq (aQ (i:=7) ND rfl (by walk_at "o") (aO sY (aO sY (eQ jT (pv 7) gf (gb (pv 3))) (bj (ak (aO bA (bw bf (pv 7) (pv 3) (fun _ _=>rfl)) (pv 2)) aj))) (eQ jT (pv 7) (gb (aO bA (pv 3) ao)) gf))) (aH (aQ (i:=9) ND rfl (by walk_at "o") (bw bf (pv 4) ao (fun _ _=>rfl))))) (aq (eE (pf lW hr (ak (pv 6) (ak (pv 7) (ak (Wy Rr (pv 2)) aj)))) (bT (K:=K) (n:=2) rfl rfl (aG (aF (i:=6) ND rfl (by walk_at "o")) (aG (aF (i:=7) ND rfl (by walk_at "o")) bQ)))) (aH (aQ (i:=9) ND rfl (by walk_at "o") (bw bf (pv 4) ao (fun _ _=>rfl)))))) (aH (aY (bj (ak (pv 5) (ak (pv 6) (ak (pv 7) (ak (pv 8) (ak (pv 9) (ak (pv 10) aj))))))))))))),?_⟩
 walk_at "rd";refine eF (fun c1=>?_) (fun c1=>?_)
 ·have:=q u H (aL.refl H);unfold gA at this;rw[a_ (yt c1)] at this;exact this a2
 have c1':=Hx c1;obtain⟨pa,pb,pc,pd,rfl,p1,p2⟩:=qK a1;obtain⟨sa,sb,sc,rfl,g1,g2,g3⟩:=mC a2;have ha4:=hP.a;have hc5:=hS.c;refine Ix.tup p1 (aU (j:=3) rfl) (Ix.tup p1 (aU (j:=5) rfl) ⟨_,_,rfl,?_⟩);refine⟨sa,_,rfl,fW.of g1,rfl,?_⟩;walk_at "rd";refine eF (fun c2=>?_) (fun c2=>?_)
 ·have c2':=yt c2
  have ga:(st.cs.map V.int)[x.a]?=some (.int (st.cs.getD x.a 0)):=by
   rw[dw,gG (by omega),nQ,gG (by omega)]; rfl
  refine⟨sb,_,rfl,g2,fun p3 H3 s3 e3=>?_⟩;rw[zH (by omega),vP] at e3
  refine Ix.tup (s3 _ _ g2) (aU ga) ?_;walk_at "rd";refine⟨(by decide),fun p4 H4 f4 s4 e4=>?_⟩
  refine⟨p3,p4,_,_,rfl,rfl,s4 _ _ e3,e4,pH (aW (by simp; omega)),fun p5 H5 s5 e5=>?_⟩
  walk_at "rd";have s35:=s3.trans (s4.trans s5);refine⟨sb,_,rfl,s35 _ _ g2,fun p6 H6 s6 e6=>?_⟩;rw[pX (by omega)] at e6
  refine⟨p5,p6,_,_,rfl,rfl,s6 _ _ e5,e6,pH (aW (by simp; omega)),fun p7 H7 s7 e7=>?_⟩
  have s37:=s35.trans (s6.trans s7);walk_at "rd";refine Ix.tup (s37 _ _ p2) (aU (j:=0) rfl) ⟨(by decide),fun p8 H8 f8 s8 e8=>?_⟩
  have We:=s37.trans s8;refine q (.ref p8) H8 We ?_;unfold gA;rw[aV c1',a_ c2'];refine At.tup e8 (aa.cons (At.int _) (aa.cons (At.int _) (aa.cons (At.tup (s8 _ _ e7) ?_) (aa.cons (At.int _) (aa.cons (At.int _) (aa.cons (g3.mono We) aa.nil))))));have e:(((x.a:Int)+1).toNat)=x.a+1:=by omega
  rw[e];have:=cG (H:=H8) (st.cs.take x.a++[st.cs.getD x.a 0+ch]++st.cs.drop (x.a+1));simpa using this
 ·have c2':=Hx c2;refine⟨st.r,-ch,sb,st.cs,rfl,g2,by omega,fun p3 b3 H3 s3 e3 e4=>?_⟩
  refine⟨p3,_,rfl,fW.of e3,rfl,?_⟩;walk_at "rd";refine Ix.tup (s3 _ _ p2) (aU (j:=1) rfl) ⟨(by decide),fun p8 H8 f8 s8 e8=>?_⟩
  have We:=s3.trans s8;refine q (.ref p8) H8 We ?_;unfold gA;rw[aV c1',aV (by omega)]
  exact At.tup e8 (aa.cons (At.int _) (aa.cons (At.int _) (aa.cons (At.tup (s8 _ _ e4) (cG _)) (aa.cons (At.int _) (aa.cons (At.int _) (aa.cons (g3.mono We) aa.nil))))))
def dF (x:fu) (st:dY) (come:Int):Int:=if(if 0>x.m-st.w then 0 else x.m-st.w)<come then(if 0>x.m-st.w then 0 else x.m-st.w) else come
def jt (st:dY):Int:=st.r+st.cs.getD 0 0
def fH (x:fu) (st:dY) (come:Int):Int:=if jt st*x.p<st.w+dF x st come then jt st*x.p else st.w+dF x st come
def fG (x:fu) (st:dY) (come:Int):List (List Int):=[come,fH x st come,st.w+dF x st come-fH x st come]::st.us
def iK (x:fu) (st:dY) (come:Int):dY:=⟨st.w+dF x st come-fH x st come,jt st,st.cs.drop 1++[0],yf x.e st.s,if 0>st.t-1 then 0 else st.t-1,(fG x st come).take 3⟩
def qm (x:fu) (st:dY) (come fr:Int):Int:=if y_ x.e st.s st.t=true then tK x (jt st+(st.cs.drop 1++[0]).sum) fr (fG x st come) else 0
def yd:Sp:=fun vs H Q _=>∃(v u:V) (x:fu) (st:dY) (come fr:Int),vs=[v,u,.int come,.int fr]/\At H (gZ x) v/\At H (jR st) u/\zZ x/\qZ st /\
 ∀p u' H',aL H H'->At H' (jR (gA x (iK x st come) (qm x st come fr))) u'->H' p=some (.tup [u',.int (fH x st come),.int (come-dF x st come),.int (qm x st come fr)])->Q (.ref p) H'
theorem FZ:aR ["post","stand","come","free","pace","room","wait","ready","called","since","rest","seen","taken","done","newest","looks","moved","change"] ["post","stand","come","free"] (aC Dm):=(by walk_at "c")
theorem uY {x:fu} {st:dY} {come:Int} (h:qZ st):qZ (iK x st come):=by
 refine⟨?_,?_,fun y hy=>?_⟩
 ·show(st.cs.drop 1++[0]).length=5;have:=h.c;simp; omega
 ·show((fG x st come).take 3).length=3;have:=h.u;unfold fG;simp; omega
 ·have hy:=DK hy;unfold fG at hy;rcases d_.mp hy with z | z
  ·rw[z]; rfl
  ·exact h.l y z
theorem Gk {T:Addr} {tk:Tok} (F:Fe K "beat" "beat" Dm f fd T 12 tk) (B:Bi mg) (O:Co K mg) (dX:Ct P w K mg base k "since_and_look" ["post","since","rest"] FJ) (jg:Ct P w K mg base k "change_of" ["post","hands","newest","free"] Ak) (bU:Ct P w K mg base k "hands_of" ["stand"] oZ)
  (gm:Ct P w K mg base k "with_change" ["post","stand","change"] Dg):bD P w K mg base fY (k+1) f fd ["post","stand","come","free"] yd:=by
 refine F.ok FZ (by rintro vs H Q E ⟨v,u,x,st,come,fr,rfl,_⟩; rfl) (fun cdv A outer s H vs Q E hr h=>?_)
 obtain⟨v,u,x,st,come,fr,rfl,a1,a2,hP,hS,q⟩:=h;have ND:=FZ.nd;refine⟨_,(aq (eE (eQ jT (pv 0) gf (gb ao)) (bT (K:=K) (n:=2) rfl rfl (aG (aF (i:=4) ND rfl (by walk_at "o")) (aG (aF (i:=5) ND rfl (by walk_at "o")) bQ)))) (aq (eE (pv 1) (bT (K:=K) (n:=6) rfl rfl (aG (aF (i:=6) ND rfl (by walk_at "o")) (aG (aF (i:=7) ND rfl (by walk_at "o")) (aG (aF (i:=8) ND rfl (by walk_at "o")) (aG (aF (i:=9) ND rfl (by walk_at "o")) (aG (aF (i:=10) ND rfl (by walk_at "o")) (aG (aF (i:=11) ND rfl (by walk_at "o")) bQ)))))))) (aq (yC (i:=7) ND rfl (by walk_at "o") (bw bf (pv 8) ao (fun _ _=>rfl)) Lp) (aq (aQ (i:=8) ND rfl (by walk_at "o") (aO sY (eQ jT (pv 8) (gb ao) gf) (bj (ak ao aj)))) (aq (aQ (i:=12) ND rfl (by walk_at "o") (pb (fj rfl) B.min lZ (ak (pv 2) (ak (pb (fV rfl) B.max l_ (ak (aO jx (pv 5) (pv 6)) (ak ao aj))) aj)))) (aq (yC (i:=6) ND rfl (by walk_at "o") (pv 12) Lp) (aq (aQ (i:=13) ND rfl (by walk_at "o") (pb (fj rfl) B.min lZ (ak (pv 6) (ak (aO jy (pv 7) (pv 4)) aj)))) (aq (yC (i:=6) ND rfl (by walk_at "o") (pv 13) Ej) (aq (aQ (i:=14) ND rfl (by walk_at "o") (aO sY (bj (ak (bj (ak (pv 2) (ak (pv 13) (ak (pv 6) aj)))) aj)) (pv 11))) (aq (eE (pf dX hr (ak (pv 0) (ak (pv 9) (ak (pv 10) aj)))) (bT (K:=K) (n:=2) rfl rfl (aG (aF (i:=9) ND rfl (by walk_at "o")) (aG (aF (i:=15) ND rfl (by walk_at "o")) bQ)))) (aq (aQ (i:=16) ND rfl (by walk_at "o") (bj (ak (pv 6) (ak (pv 7) (ak (pv 8) (ak (pv 9) (ak (pb (fV rfl) B.max l_ (ak (aO jx (pv 10) ao) (ak ao aj))) (ak (eQ jT (pv 14) gf (gb (yG O.zY))) aj)))))))) (aq (aQ (i:=17) ND rfl (by walk_at "o") (cL (iH (pv 15)) (pf jg hr (ak (pv 0) (ak (pf bU hr (ak (pv 16) aj)) (ak (pv 14) (ak (pv 3) aj))))) ao)) (aH (aY (bj (ak (pf gm hr (ak (pv 0) (ak (pv 16) (ak (pv 17) aj)))) (ak (pv 13) (ak (aO jx (pv 2) (pv 12)) (ak (pv 17) aj))))))))))))))))))),?_⟩
 obtain⟨pa,pb,pc,pd,rfl,p1,p2⟩:=qK a1;obtain⟨sa,sb,sc,rfl,g1,g2,g3⟩:=mC a2;have hc5:=hS.c;have hpp:=hP.p
 have gc0:(st.cs.map V.int)[0]?=some (.int (st.cs.getD 0 0)):=by
  rw[dw,gG (by omega),nQ,gG (by omega)]; rfl
 walk_at "rd";refine⟨pa,_,rfl,p1,fun q1 H1 s1 e1=>?_⟩;rw[zH (by decide)] at e1
 replace e1:H1 q1=some (.tup [.int x.p,.int x.m]):=e1
 refine⟨q1,_,rfl,fW.of e1,rfl,?_⟩;walk_at "rd";refine⟨sa,_,rfl,fW.of (s1 _ _ g1),rfl,?_⟩;walk_at "rd";refine⟨_,rfl,Ix.tup (s1 _ _ g2) (aU gc0) ⟨_,_,rfl,rfl,?_⟩⟩;refine⟨sb,_,rfl,s1 _ _ g2,fun q2 H2 s2 e2=>?_⟩;rw[pX (by decide)] at e2
 have s12:=s1.trans s2;refine⟨(by decide),fun q3 H3 f3 s3 e3=>?_⟩
 refine⟨q2,q3,_,_,rfl,rfl,s3 _ _ e2,e3,pH (aW (by simp; omega)),fun q4 H4 s4 e4=>?_⟩
 have Wg:=s12.trans (s3.trans s4);walk_at "rd";refine⟨_,rfl,_,_,rfl,rfl,.inr (by omega),_,rfl,_,_,rfl,rfl,(by decide),fun q5 H5 f5 s5 e5=>⟨(by decide),fun q6 H6 f6 s6 e6=>?_⟩⟩
 replace e5:H5 q5=some (.tup [.int come,.int (fH x st come),.int (st.w+dF x st come-fH x st come)]):=e5
 obtain⟨sc',us',ec,gu,au⟩:=bB g3;cases ec;have s16:=Wg.trans (s5.trans s6);have lus:us'.length=3:=by have:=au.length; rw[cT,hS.u] at this; exact this
 refine⟨q6,sc,_,_,rfl,rfl,e6,s16 _ _ gu,pH (aW (by simp; omega)),fun q7 H7 s7 e7=>?_⟩
 have Z0:=s16.trans s7;have a7:At H7 (CW (fG x st come)) (.ref q7):=At.tup e7 (aa.cons (At.tup ((s6.trans s7) _ _ e5) (cG [come,fH x st come,st.w+dF x st come-fH x st come])) (au.mono Z0))
 have hN:oU (fG x st come):=⟨by show st.us.length+1=4; rw[hS.u],fun y hy=>by
  rcases d_.mp hy with z | z
  ·rw[z]; rfl
  ·exact hS.l y z⟩
 refine⟨.ref pa,x,st.s,st.t,rfl,a1.mono Z0,fun q8 H8 s8 e8=>?_⟩;refine⟨q8,_,rfl,fW.of e8,rfl,?_⟩;walk_at "rd";have s18:=Z0.trans s8;obtain⟨q7',nws,en,gn,an⟩:=bB (a7.mono s8);cases en;refine⟨q7,_,rfl,gn,fun q9 H9 s9 e9=>?_⟩;rw[zH (by decide)] at e9
 have s19:=s18.trans s9;refine⟨(by decide),fun Wx G6 YL yj e10=>?_⟩
 have Wi:=s19.trans yj;have e4':H4 q4=some (.tup ((st.cs.drop 1++[0]).map V.int)):=by rw[e4]; simp
 have Wd:aL H4 G6:=s5.trans (s6.trans (s7.trans (s8.trans (s9.trans yj))))
 have am:At G6 (jR (iK x st come)) (.ref Wx):=by
  refine At.tup e10 (aa.cons (At.int _) (aa.cons (At.int _) (aa.cons (At.tup (Wd _ _ e4') (cG _)) (aa.cons (At.int _) (aa.cons (At.int _) (aa.cons (At.tup (yj _ _ e9) ?_) aa.nil))))));show aa G6 (((fG x st come).take 3).map cY) _;rw[List.map_take];exact(an.take 3).mono (s9.trans yj)
 have fin:∀(c:Int) (UG:Hp),qm x st come fr=c->aL G6 UG->Dg [.ref pa,.ref Wx,.int c] UG (fun y H1=>4<=sizeLine/\∀p H',H1 p=none->aL H1 H'->H' p=some (.tup [y,.int (fH x st come),.int (come-dF x st come),.int c])->Q (.ref p) H') E0:=fun c UG ec QV=>by
  subst ec;have Wh:=Wi.trans QV;exact⟨.ref pa,.ref Wx,x,iK x st come,_,rfl,a1.mono Wh,am.mono QV,hP,uY hS,fun u' H12 Z1 a12=>⟨(by decide),fun q13 H13 f13 Ga Ue=>q q13 u' H13 (Wh.trans (Z1.trans Ga)) (a12.mono Ga) Ue⟩⟩
 refine eF (fun c1=>?_) (fun c1=>?_)
 ·refine⟨.ref Wx,_,Wx,jt st,q4,st.cs.drop 1++[0],_,rfl,rfl,e10,Wd _ _ e4',?_⟩;refine⟨.ref pa,.ref q7,x,_,fr,fG x st come,rfl,a1.mono Wi,a7.mono (s8.trans (s9.trans yj)),hP,hN,fun UG QV=>?_⟩;exact fin _ UG (by unfold qm; rw[a_ c1]) QV
 ·exact fin 0 G6 (by unfold qm; rw[aV (by rw[c1]; decide)]) (aL.refl _)
local macro_rules | `(tactic| walk_at "cap")=>`(tactic| simp only[cH,nU,List.map_nil,List.getElem?_cons_zero,List.getElem?_cons_succ,Option.join_some])
def J2 (K:PySem.W.Frag):Sp:=fun vs H Q _=>∃(s:Addr) (ns:List Int) (i:Int),vs=[.ref s,.int i]/\cV K H s (ns.map V.int)/\0<=i/\i<=1000/\∀p H',H p=none->aL H H'->Tp H' p 0->Q (.ref p) H'
theorem wQ:aR ["_law_script","_law_k","_law_cell"] ["_law_script","_law_k"] (aC uq):=(by walk_at "c")
theorem Ia (F:jh K "_law_tape" "_law_tape" uq f fd) (B:Bi mg):bD P w K mg base fY (k+1) f fd ["_law_script","_law_k"] (J2 K):=by
 refine F.ok wQ (by rintro vs H Q E ⟨a,ns,i,rfl,_⟩; rfl) (fun cdv A outer s H vs Q E hr h=>?_)
 obtain⟨a,ns,i,rfl,hS,h0,h1,q⟩:=h;have ND:=wQ.nd;refine⟨_,(aq (aQ (i:=2) ND rfl (by walk_at "o") (cL (aZ uM (pv 1) (pb (cX (K:=K) rfl) B.len eZ (ak (pv 0) aj)) (bh _)) (bw Gu (pv 0) (pv 1) (fun _ _=>rfl)) ao)) (aH (aY (KD (ak (aO jy (pb (BZ) B.abs Mx (ak (pv 2) aj)) (pt (xP) B.int Mw (ak (gk WN (pb (BZ) B.abs Mx (ak (pv 2) aj)) (aO ou ao ao) (bh _)) aj))) (ak (aO bA (aO bA (aO jY (pv 2) ao) (aO jy ao (pv 1))) ao) (ak ao aj))))))),?_⟩
 walk_at "rd";refine⟨a,_,rfl,.inl hS,?_⟩;show ∃Yu j,V.int i=V.int Yu/\V.int ((ns.map V.int).length:Int)=V.int j/\_;walk_at "rd";have Up:∀c:Int,0<=(if c<0 then -c else c):=fun c=>by split <;> omega
 have fin:∀(c x y:Int),x=(if c<0 then -c else c)*(if decide (10 ^ Int.toNat 18<=(if c<0 then -c else c))=true then 1 else 0)->y=c % 2305843009213693951+39373*i+17->∀p,H p=none->Q (.ref p) (upd H p (.lst [.int x,.int y,.int 0])):=fun c x y ex ey p hp=>by
  have hx:0<=x:=by
   rw[ex];have nn:=Up c;generalize (if c<0 then -c else c)=u at nn ⊢
   split
   ·rw[Int.mul_one]; exact nn
   ·rw[Int.mul_zero]; exact Int.le_refl 0
  have h2:=uA c (show(2305843009213693951:Int)≠0 by decide)
  have h3:=yu c (show(0:Int)<2305843009213693951 by decide)
  exact q p _ hp (aN hp _) ⟨x,y,0,aA,hx,by omega,by omega,Int.le_refl 0,Int.le_refl 0⟩
 have cm:∀(c:Int) (b:Bool),Qt c (if b=true then 1 else 0):=fun c b=>.inr (by cases b <;> decide)
 refine eF (fun c1=>?_) (fun c1=>?_)
 ·have c1':=yt c1;have hi:i.toNat<ns.length:=by rw[cT] at c1'; omega
  refine⟨a,_,i,.int (ns[i.toNat]),rfl,rfl,hS,?_,?_⟩
  ·have:=aU (xs:=ns.map V.int) (j:=i.toNat) (v:=.int (ns[i.toNat])) (by rw[dw,gG hi]; rfl)
   rwa [show((i.toNat:Nat):Int)=i by omega] at this
  ·walk_at "rd";refine⟨⟨by decide,by decide,by decide⟩,cm _ _,by decide,.inl (by decide),(by show 3<=sizeLine; decide),fun p hp=>?_⟩
   exact fin _ _ _ rfl rfl p hp
 ·refine⟨⟨by decide,by decide,by decide⟩,cm _ _,by decide,.inl (by decide),(by show 3<=sizeLine; decide),fun p hp=>?_⟩
  exact fin 0 _ _ rfl rfl p hp
def fO:Sp:=fun vs H Q _=>∃(a:Addr) (m:Int) (n:Nat),vs=[.ref a,.int m]/\Tp H a n/\n<=1000000000/\0<m/\m<1000000000000000/\∀v H',0<=v->v<m->Tp H' a (n+1)->SX a H H'->Q (.int v) H'
theorem wV:aR ["_law_tape_here","_law_many","_law_found","_law_once","_law_twice"] ["_law_tape_here","_law_many"] (aC uw):=(by walk_at "c")
theorem Ig (F:jh K "_law_draw" "_law_draw" uw f fd) (B:Bi mg):bD P w K mg base fY (k+1) f fd ["_law_tape_here","_law_many"] fO:=by
 refine F.ok wV (by rintro vs H Q E ⟨a,m,n,rfl,_⟩; rfl) (fun cdv A outer s H vs Q E hr h=>?_)
 obtain⟨a,m,n,rfl,⟨x,y,z,hT,hx,hy,hy2,hz,hz2⟩,hn,hm,hm2,q⟩:=h;have ND:=wV.nd;refine⟨_,(aq (di (aZ Bo (bw bf (pv 0) ao (fun _ _=>rfl)) ao (bh _)) (aq (aQ (i:=2) ND rfl (by walk_at "o") (aO jY (bw bf (pv 0) ao (fun _ _=>rfl)) (pv 1))) (aq (eE (aO Bp (bw bf (pv 0) ao (fun _ _=>rfl)) (pv 1)) (uJ (pv 0) ao set_list)) (aH (aY (pv 2))))) bM) (aq (eE (aO bA (bw bf (pv 0) ao (fun _ _=>rfl)) ao) (uJ (pv 0) ao set_list)) (aq (aQ (i:=3) ND rfl (by walk_at "o") (aO jY (aO ou (aO bA (bw bf (pv 0) ao (fun _ _=>rfl)) (aO jy ao (bw bf (pv 0) ao (fun _ _=>rfl)))) ao) ao)) (aq (aQ (i:=4) ND rfl (by walk_at "o") (aO jY (aO jy (aO bA (pv 3) (bw bf (pv 0) ao (fun _ _=>rfl))) (aO bA (aO bA (aO jY (pv 3) ao) ao) (bw bf (pv 0) ao (fun _ _=>rfl)))) ao)) (aH (aY (aO jY (aO O5 (aO jY (aO bA (aO jy (pv 4) ao) (pv 3)) ao) ao) (pv 1)))))))),?_⟩
 walk_at "rd";refine Ix.lst hT (aU (j:=0) rfl) ?_;walk_at "rd";refine eF (fun c1=>?_) (fun c1=>?_)
 ·refine Ix.lst hT (aU (j:=0) rfl) ?_;walk_at "rd";refine⟨hm,Ix.lst hT (aU (j:=0) rfl) ?_⟩;walk_at "rd";refine⟨⟨hm,Int.lt_trans hm2 (by decide)⟩,a,_,0,0,rfl,rfl,hT,rfl,?_⟩
  refine q _ _ (uA _ (by omega)) (yu _ hm) ⟨x / m,y,z,aA,Int.ediv_nonneg hx (by omega),hy,hy2,hz,by omega⟩ SX.upd
 ·refine Ix.lst hT (aU (j:=2) rfl) ?_;walk_at "rd";refine⟨a,_,2,2,rfl,rfl,hT,rfl,?_⟩;have hT2:upd H a (.lst [.int x,.int y,.int (z+1)]) a=some (.lst [.int x,.int y,.int (z+1)]):=aA;show Oe (V.ref a) (V.int 1) (upd H a (.lst [.int x,.int y,.int (z+1)])) _;generalize eH:upd H a (.lst [.int x,.int y,.int (z+1)])=H2 at hT2 ⊢;have sx:SX a H H2:=by rw[<- eH]; exact SX.upd
  refine Ix.lst hT2 (aU (j:=1) rfl) (Ix.lst hT2 (aU (j:=2) rfl) ?_);walk_at "rd";refine⟨.inl (by decide),⟨by decide,by decide,by omega⟩,by decide,Ix.lst hT2 (aU (j:=2) rfl) ?_⟩
  generalize eo:(y+39373*(z+1)) ^ Int.toNat 5 % 2147483647=o;have o1:0<=o:=by rw[<- eo]; exact uA _ (by decide)
  have o2:o<2147483647:=by rw[<- eo]; exact yu _ (by decide)
  walk_at "rd";refine⟨by decide,Ix.lst hT2 (aU (j:=2) rfl) ?_⟩
  walk_at "rd";have m1:=uA o (show(40009:Int)≠0 by decide)
  have m2:=yu o (show(0:Int)<40009 by decide)
  refine⟨.inl (by omega),by decide,?_⟩
  generalize et:(o+(z+1))*(o % 40009+7+(z+1)) % 2147483629=t;have t1:0<=t:=by rw[<- et]; exact uA _ (by decide)
  have t2:t<2147483629:=by rw[<- et]; exact yu _ (by decide)
  refine⟨.inl (by omega),by decide,⟨by decide,by decide⟩,hm,?_⟩
  exact q _ _ (uA _ (by omega)) (yu _ hm) ⟨x,y,z+1,hT2,hx,hy,hy2,by omega,by omega⟩ sx
theorem cD.of {a:Addr} {m:Int} {n:Nat} {H:Hp} {Q:VK} {E:XK} (t:Tp H a n) (hn:n<=1000000000) (h1:0<m) (h2:m<1000000000000000) (q:∀v H',0<=v->v<m->Tp H' a (n+1)->SX a H H'->Q (.int v) H'):fO ([.ref a,.int m]++[]) H Q E:=⟨a,m,n,rfl,t,hn,h1,h2,q⟩
def mG:Sp:=fun vs H Q _=>∃(a:Addr) (n:Nat),vs=[.ref a]/\Tp H a n/\n<=900000000/\∀v H',0<=v->v<=1000000000000->Tp H' a (n+4)->SX a H H'->Q (.int v) H'
theorem vH.of {a:Addr} {n:Nat} {H:Hp} {Q:VK} {E:XK} (t:Tp H a n) (hn:n<=900000000) (q:∀v H',0<=v->v<=1000000000000->Tp H' a (n+4)->SX a H H'->Q (.int v) H'):mG ([.ref a]++[]) H Q E:=⟨a,n,rfl,t,hn,q⟩
theorem ud:aR ["_law_tape_here","_law_way","_law_great"] ["_law_tape_here"] (aC qw):=(by walk_at "c")
theorem DW (F:jh K "_law_units" "_law_units" qw f fd) (B:Bi mg) (aK:Ct P w K mg base k "_law_draw" ["_law_tape_here","_law_many"] fO):bD P w K mg base fY (k+1) f fd ["_law_tape_here"] mG:=by
 refine F.ok ud (by rintro vs H Q E ⟨a,n,rfl,_⟩; rfl) (fun cdv A outer s H vs Q E hr h=>?_)
 obtain⟨a,n,rfl,tp,hn,q⟩:=h;have ND:=ud.nd;refine⟨_,(aq (aQ (i:=1) ND rfl (by walk_at "o") (pf aK hr (ak (pv 0) (ak ao aj)))) (aq (di (aZ uM (pv 1) ao (bh _)) (aH (aY (pf aK hr (ak (pv 0) (ak ao aj))))) bM) (aq (di (aZ gJ (pv 1) ao (bh _)) (aH (aY (pf aK hr (ak (pv 0) (ak ao aj))))) bM) (aq (aQ (i:=2) ND rfl (by walk_at "o") (aO bA (aO jy (pf aK hr (ak (pv 0) (ak (aO ou ao ao) aj))) (aO ou ao ao)) (pf aK hr (ak (pv 0) (ak (aO ou ao ao) aj))))) (aH (aY (cL (aZ gJ (pv 1) ao (bh _)) (pv 2) (aO jx (aO ou ao ao) (aO jY (pv 2) ao))))))))),?_⟩
 walk_at "rd";refine cD.of tp (by omega) (by decide) (by decide) fun v1 H1 l1 u1 t1 s1=>?_
 walk_at "rd";refine eF (fun c1=>?_) (fun c1=>?_)
 ·refine cD.of t1 (by omega) (by decide) (by decide) fun v2 H2 l2 u2 t2 s2=>?_
  exact q v2 H2 l2 (by omega) (t2.mono (by omega)) (s1.trans s2)
 ·refine eF (fun c2=>?_) (fun c2=>?_)
  ·refine cD.of t1 (by omega) (by decide) (by decide) fun v2 H2 l2 u2 t2 s2=>?_
   exact q v2 H2 l2 (by omega) (t2.mono (by omega)) (s1.trans s2)
  ·refine⟨⟨by decide,by decide,by decide⟩,?_⟩
   refine cD.of t1 (by omega) (by decide) (by decide) fun v2 H2 l2 u2 t2 s2=>?_
   walk_at "rd";have e6:(10:Int) ^ Int.toNat 6=1000000:=by decide
   have Q_:(10:Int) ^ Int.toNat 12=1000000000000:=by decide
   rw[e6] at u2;refine⟨⟨by decide,by decide,by decide⟩,.inr (by decide),⟨by decide,by decide,by decide⟩,?_⟩
   refine cD.of t2 (by omega) (by decide) (by decide) fun v3 H3 l3 u3 t3 s3=>?_
   rw[e6] at u3;walk_at "rd";rw[e6,Q_];refine eF (fun c3=>?_) (fun c3=>?_)
   ·exact q _ H3 (by omega) (by omega) (t3.mono (by omega)) (s1.trans (s2.trans s3))
   ·have m1:=uA (v2*1000000+v3) (show(3:Int)≠0 by decide)
    have m2:=yu (v2*1000000+v3) (show(0:Int)<3 by decide)
    exact⟨⟨by decide,by decide,by decide⟩,by decide,q _ H3 (by omega) (by omega) (t3.mono (by omega)) (s1.trans (s2.trans s3))⟩
def M7 (i:Int):Prop:=0<=i/\i<=1000000000000
def Rc (u:List Int):Prop:=∃a b c,u=[a,b,c]/\M7 a/\M7 b/\M7 c
structure Zb (x:dY):Prop where
 w:M7 x.w
 r:0<=x.r
 c:x.cs.length=5
 cn:∀y∈x.cs,0<=y
 sm:x.r+x.cs.sum<=12
 s:0<=x.s/\x.s<=5
 t:0<=x.t/\x.t<=9
 u:x.us.length=3
 ul:∀y∈x.us,Rc y
def Fz:Sp:=fun vs H Q _=>∃(a:Addr) (n:Nat),vs=[.ref a]/\Tp H a n/\n<=100000000/\∀p x H',Zb x->At (hid a H') (jR x) (.ref p)->Tp H' a (n+60)->SX a H H'->Q (.ref p) H'
theorem ue:aR ["_law_tape_here","_law_left","_law_called","_law_k","_law_seen"] ["_law_tape_here"] (aC qy):=(by walk_at "c")
theorem DX (F:jh K "_law_stand" "_law_stand" qy f fd) (B:Bi mg) (aK:Ct P w K mg base k "_law_draw" ["_law_tape_here","_law_many"] fO) (dz:Ct P w K mg base k "_law_units" ["_law_tape_here"] mG) :
  bD P w K mg base fY (k+1) f fd ["_law_tape_here"] Fz:=by
 refine F.ok ue (by rintro vs H Q E ⟨a,n,rfl,_⟩; rfl) (fun cdv A outer s H vs Q E hr h=>?_)
 obtain⟨a,n,rfl,tp,hn,q⟩:=h;have ND:=ue.nd;refine⟨_,(aq (qL (i:=1) (j:=2) rfl ND rfl rfl (by decide) rfl rfl (ak ao (ak (KD aj) aj)) (by rfl)) (aq (gP PassesOwn.never rfl (dR (by rfl) B.range (ak ao aj)) (aF (i:=3) ND rfl (by walk_at "o")) (aq (cZ (gU (K:=K) rfl PySem.F.plainAttrs_list PySem.F.slot_list_append PySem.F.type_list_append dU (pv 2) (ak (pf aK hr (ak (pv 0) (ak (aO bA (pb (fj rfl) B.min lZ (ak (pv 1) (ak ao aj))) ao) aj))) aj))) (aH (aQ (i:=1) ND rfl (by walk_at "o") (aO jx (pv 1) (bw bf (pv 2) (pv 3) (fun _ _=>rfl))))))) (aq (aQ (i:=4) ND rfl (by walk_at "o") (pt (jP) B.tuple lY (ak (cP (N':=["_law_k","_law_tape_here"]) (js:=[0]) rfl (dR (by rfl) B.range (ak ao aj)) qt.mk1 rfl (by decide) rfl (fun fp s' H'=>(Kz (ak (pf dz hr (ak (pv 1) aj)) (ak (pf dz hr (ak (pv 1) aj)) (ak (pf dz hr (ak (pv 1) aj)) aj)))))) aj))) (aH (aY (Kz (ak (pf dz hr (ak (pv 0) aj)) (ak (pf aK hr (ak (pv 0) (ak (aO bA (pv 1) ao) aj))) (ak (pt (jP) B.tuple lY (ak (pv 2) aj)) (ak (pf aK hr (ak (pv 0) (ak ao aj))) (ak (pf aK hr (ak (pv 0) (ak ao aj))) (ak (pv 4) aj)))))))))))),?_⟩
 walk_at "rd";refine⟨iY _,fun p hp=>⟨_,_,rfl,?_⟩⟩;have pa:p≠a:=tp.ne hp;refine Xq (n:=5) (fun R hR=>hR) (by decide) (fun i σ H'=>∃(left:Int) (cs:List Int) (o3:Option V),σ=[some (.ref a),some (.int left),some (.ref p),o3,none]/\H' p=some (.lst (cs.map V.int))/\cs.length=i/\(∀c∈cs,0<=c)/\cs.sum+left=12/\(0<=left/\left<=12)/\Tp H' a (n+i)/\SX a H H')
  ⟨12,[],none,rfl,aA,rfl,fun c h=>by simp at h,rfl,⟨by decide,by decide⟩,tp.same (aN hp _),SX.of (aN hp _)⟩ ?_ ?_
 ·rintro i σ H1 hi ⟨left,cs,o3,rfl,h1,h2,h3,h4,h5,t1,s1⟩;walk_at "rd";refine⟨.inl ⟨rfl,_,cV.of h1⟩,?_⟩;refine cD.of t1 (by omega) (by split <;> omega) (by split <;> omega) fun v H2 l2 u2 t2 s2=>?_
  have h1':=s2.get pa h1;refine⟨p,_,_,rfl,rfl,h1',by rw[cT]; exact aW (by omega),?_⟩
  have e:(cs.map V.int++[V.int v])=(cs++[v]).map V.int:=by simp
  rw[e];refine Ix.lst aA (v:=.int v) ?_ ?_
  ·have:=aU (xs:=(cs++[v]).map V.int) (j:=i) (v:=.int v) (by subst h2; simp)
   rw[Int.zero_add]; exact this
  ·walk_at "rd";have lv:v<=left:=by split at u2 <;> omega
   refine⟨left-v,cs++[v],_,rfl,aA,by rw[dh,h2]; rfl,fun c hc=>?_,?_,by omega,?_,?_⟩
   ·rcases fC.mp hc with z | z
    ·exact h3 c z
    ·rw[gF.mp z]; exact l2
   ·rw[List.sum_append]; simp; omega
   ·exact t2.eV pa
   ·exact(s1.trans s2).eV hp pa
 ·rintro σ H1 ⟨left,cs,o3,rfl,h1,h2,h3,h4,h5,t1,s1⟩;walk_at "rd";refine Mi (n:=3) (fun R hR=>hR) (by decide) fun acc hacc=>?_
  have ca:acc≠a:=t1.ne hacc;refine⟨fun i ys H'=>∃us:List (List Int),us.length=i/\(∀u∈us,Rc u)/\aa (hid acc (hid a H')) (us.map cY) ys/\ys.length=i/\H' acc=some (.lst ys)/\Tp H' a (n+5+12*i)/\SX a H1 H',?_,?_,?_⟩
  ·exact⟨[],rfl,fun u h=>by simp at h,aa.nil,rfl,aA,t1.eV ca,(SX.refl a H1).eV hacc ca⟩
  ·rintro i ys H2 hi ⟨us,l2,u2,a2,y2,c2,t2,s2⟩;show Rv _ [some _,some (.ref a)] H2 _;walk_at "rd";refine vH.of t2 (by omega) fun v1 H3 l3 u3 t3 s3=>?_
   refine vH.of t3 (by omega) fun v2 H4 l4 u4 t4 s4=>?_
   refine vH.of t4 (by omega) fun v3 H5 l5 u5 t5 s5=>?_
   refine⟨(by show 3<=sizeLine; decide),fun t ht=>?_⟩
   have ZZ:=s3.trans (s4.trans s5);have ta:t≠a:=t5.ne ht;have c5:=ZZ.get ca c2;have tc:t≠acc:=fun z=>by subst z; rw[ht] at c5; cases c5
   refine⟨by rw[aJ (Ne.symm tc)]; exact c5,aW (by omega),us++[[v1,v2,v3]],by rw[dh,l2]; rfl,fun u hu=>?_,?_,by rw[dh,y2]; rfl,aA,?_,?_⟩
   ·rcases fC.mp hu with z | z
    ·exact u2 u z
    ·rw[gF.mp z]; exact⟨v1,v2,v3,rfl,⟨l3,u3⟩,⟨l4,u4⟩,⟨l5,u5⟩⟩
   ·rw[cM ca,mK,cM ta,cM tc,jK];have fr:(hid acc (hid a H5)) t=none:=by rw[cg tc,cg ta]; exact ht
    refine aa.append ((a2.mono (aL.hid ZZ)).mono (aN fr _)) (aa.cons (At.tup aA ?_) aa.nil);exact aa.cons (At.int _) (aa.cons (At.int _) (aa.cons (At.int _) aa.nil))
   ·exact((t5.eV ta).eV ca).mono (by omega)
   ·exact(((s2.trans ZZ).trans (SX.of (aN ht _))).eV hacc ca)
  ·rintro ys H2 ⟨us,l2,u2,a2,y2,c2,t2,s2⟩;refine⟨acc,ys,rfl,c2,fun l hl=>?_⟩;have la:l≠a:=t2.ne hl
   have A1:At (hid a (upd H2 l (.tup ys))) (.tuple (us.map cY)) (.ref l):=by
    rw[cM la];have fr:hid a H2 l=none:=by rw[cg la]; exact hl
    exact At.tup aA ((a2.mono dW).mono (aN fr _))
   have p2:upd H2 l (.tup ys) p=some (.lst (cs.map V.int)):=by
    have:=s2.get pa h1;rw[aJ (fun z=>by subst z; rw[hl] at this; cases this)]; exact this
   refine vH.of (t2.eV la) (by omega) fun v3 H3 l3 u3 t3 s3=>?_
   refine cD.of t3 (by omega) (by omega) (by omega) fun v4 H4 l4 u4 t4 s4=>?_
   refine⟨p,_,rfl,s4.get pa (s3.get pa p2),fun m hm=>?_⟩;have ma:m≠a:=t4.ne hm
   have A2:At (hid a (upd H4 m (.tup (cs.map V.int)))) (.tuple (cs.map .int)) (.ref m):=by
    rw[cM ma];exact At.tup aA (cG cs)
   have A1':At (hid a (upd H4 m (.tup (cs.map V.int)))) (.tuple (us.map cY)) (.ref l):=(A1.mono (s3.trans s4)).mono (SX.of (aN hm _));refine cD.of (t4.eV ma) (by omega) (by decide) (by decide) fun v5 H5 l5 u5 t5 s5=>?_
   refine cD.of t5 (by omega) (by decide) (by decide) fun v6 H6 l6 u6 t6 s6=>?_
   refine⟨(by show 6<=sizeLine; decide),fun z hz=>?_⟩
   have za:z≠a:=t6.ne hz;have fr:hid a H6 z=none:=by rw[cg za]; exact hz
   have U5:=s5.trans s6;refine q z ⟨v3,v4,cs,v5,v6,us⟩ _ ⟨⟨l3,u3⟩,l4,h2,h3,by show v4+cs.sum<=12; omega,⟨l5,by show v5<=5; omega⟩,⟨l6,by show v6<=9; omega⟩,l2,u2⟩ ?_ ((t6.eV za).mono (by omega)) ?_
   ·rw[cM za];exact At.tup aA (aa.cons (At.int _) (aa.cons (At.int _) (aa.cons ((A2.mono U5).mono (aN fr _)) (aa.cons (At.int _) (aa.cons (At.int _) (aa.cons ((A1'.mono U5).mono (aN fr _)) aa.nil))))))
   ·refine SX.trans s1 (SX.trans s2 (SX.trans (SX.of (aN hl _)) (SX.trans s3 (SX.trans s4 (SX.trans (SX.of (aN hm _)) (SX.trans s5 (SX.trans s6 (SX.of (aN hz _)))))))))
def dm (x:fu) (st:dY) (c:Int):dY:=gA x (iK x st c) (qm x st c 12)
def Hr (x:fu) (st:dY) (c:Int):List Int:=[fH x st c,c-dF x st c,qm x st c 12]
def iI (x:fu):dY->List Int->List (List Int)
 | _,[]=>[]
 | st,c::cs=>Hr x st c::iI x (dm x st c) cs
def bC (x:fu):dY->List Int->dY
 | st,[]=>st
 | st,c::cs=>bC x (dm x st c) cs
theorem dD (x:fu):∀(st:dY) (l:List Int) (c:Int),bC x st (l++[c])=dm x (bC x st l) c
 | _,[],_=>rfl
 | st,d::l,c=>dD x (dm x st d) l c
theorem pI (x:fu):∀(st:dY) (l:List Int) (c:Int),iI x st (l++[c])=iI x st l++[Hr x (bC x st l) c]
 | _,[],_=>rfl
 | st,d::l,c=>by
  show Hr x st d::iI x (dm x st d) (l++[c])=Hr x st d::(iI x (dm x st d) l++[Hr x (bC x (dm x st d) l) c]);rw[pI]
theorem qM (x:fu):∀(st:dY) (l:List Int),(iI x st l).length=l.length
 | _,[]=>rfl
 | st,d::l=>by show(iI x (dm x st d) l).length+1=l.length+1; rw[qM]
theorem Fj {x:fu} {st:dY} {ch:Int} (hx:zZ x) (hs:qZ st):qZ (gA x st ch):=by
 have hc:=hs.c;have ha:=hx.a;unfold gA;split
 ·exact hs
 ·split
  ·refine⟨?_,hs.u,hs.l⟩;simp only[dh,lH,Az,ju,vO];omega
  ·refine⟨?_,hs.u,hs.l⟩;simp only[oH];exact hc
theorem Pb {x:fu} {st:dY} {c:Int} (hx:zZ x) (hs:qZ st):qZ (dm x st c):=Fj hx (uY hs)
theorem vG {x:fu} (hx:zZ x):∀{l:List Int} {st:dY},qZ st->qZ (bC x st l)
 | [],_,hs=>hs
 | c::l,_,hs=>vG hx (l:=l) (Pb hx hs)
def yc:Sp:=fun vs H Q _=>∃(v:V) (x:fu),vs=[v]/\At H (gZ x) v/\∀u H',aL H H'->At H' (jR ⟨0,x.lo,[0,0,0,0,0],0,0,[[0,0,0],[0,0,0],[0,0,0]]⟩) u->Q u H'
theorem uG {H:Hp} {x:fu} {v:V} (h:At H (gZ x) v):∃a b c d,v=.ref a/\H a=some (.tup [.int x.p,.int x.m,.ref b,.int x.a,.int x.e,.ref c,.ref d])/\H b=some (.tup [.int x.lo,.int x.hi])/\H c=some (.tup [.int x.u,.int x.d])/\At H (yl x.iC) (.ref d):=by
 obtain⟨a,xs,rfl,h1,h2⟩:=bB h;obtain⟨x0,_,rfl,b0,h2⟩:=aa.aM h2;obtain⟨x1,_,rfl,b1,h2⟩:=aa.aM h2;obtain⟨x2,_,rfl,b2,h2⟩:=aa.aM h2;obtain⟨x3,_,rfl,b3,h2⟩:=aa.aM h2;obtain⟨x4,_,rfl,b4,h2⟩:=aa.aM h2;obtain⟨x5,_,rfl,b5,h2⟩:=aa.aM h2;obtain⟨x6,_,rfl,b6,h2⟩:=aa.aM h2;cases aa.gW h2;unfold At at b0 b1 b3 b4;subst b0 b1 b3 b4;obtain⟨b,ys,rfl,g3,g4⟩:=bB b2;obtain⟨c,zs,rfl,g1,g2⟩:=bB b5;obtain⟨d,ws,rfl,_,_⟩:=bB b6;cases dq (cs:=[x.u,x.d]) g2;cases dq (cs:=[x.lo,x.hi]) g4;exact⟨a,b,c,d,rfl,h1,g3,g1,b6⟩
theorem kW:aR ["post","least","nothing"] ["post"] (aC jk):=(by walk_at "c")
theorem uO (F:jh K "first_stand" "first_stand" jk f fd) (B:Bi mg):bD P w K mg base fY (k+1) f fd ["post"] yc:=by
 refine F.ok kW (by rintro vs H Q E ⟨v,x,rfl,_⟩; rfl) (fun cdv A outer s H vs Q E hr h=>?_)
 obtain⟨pA,x,rfl,a1,q⟩:=h;have ND:=kW.nd;refine⟨_,(aq (aQ (i:=1) ND rfl (by walk_at "o") (bw bf (bw bf (pv 0) ao (fun _ _=>rfl)) ao (fun _ _=>rfl))) (aq (aQ (i:=2) ND rfl (by walk_at "o") (bj (ak ao (ak ao (ak ao aj))))) (aH (aY (bj (ak ao (ak (pv 1) (ak (bj (ak ao (ak ao (ak ao (ak ao (ak ao aj)))))) (ak ao (ak ao (ak (bj (ak (pv 2) (ak (pv 2) (ak (pv 2) aj)))) aj))))))))))),?_⟩
 obtain⟨pa,pb,pc,pd,rfl,p1,p2,p3,_⟩:=uG a1;walk_at "rd";refine Ix.tup p1 (v:=.ref pb) rfl (Ix.tup p2 (v:=.int x.lo) rfl ⟨(by decide),fun p4 H4 f4 s4 e4=>⟨(by decide),fun p5 H5 f5 s5 e5=>⟨(by decide),fun p6 H6 f6 s6 e6=>⟨(by decide),fun p7 H7 f7 s7 e7=>?_⟩⟩⟩⟩)
 have Cw:=s5.trans (s6.trans s7);refine q _ _ (s4.trans Cw) ?_;have tri:At H7 (cY [0,0,0]) (.ref p4):=At.tup (Cw _ _ e4) (cG [0,0,0]);exact At.tup e7 (aa.cons (At.int _) (aa.cons (At.int _) (aa.cons (At.tup ((s6.trans s7) _ _ e5) (cG [0,0,0,0,0])) (aa.cons (At.int _) (aa.cons (At.int _) (aa.cons (At.tup (s7 _ _ e6) (aa.cons tri (aa.cons tri (aa.cons tri aa.nil)))) aa.nil))))))
theorem iM:∀cs:List Int,bJ (cs.map PyData.int)=true
 | []=>rfl
 | c::cs=>by show(sZ (.int c)&&bJ (cs.map .int))=true; rw[iM cs]; rfl
theorem tQ:∀us:List (List Int),bJ (us.map cY)=true
 | []=>rfl
 | u::us=>by
  show(bJ (u.map PyData.int)&&bJ (us.map cY))=true;rw[tQ us,iM u]; rfl
theorem mD (n:dY):sZ (jR n)=true:=by
 simp only[jR,sZ,bJ,iM,tQ,Bool.and_self]
def Aj:Sp:=fun vs H Q _=>∃(v u:V) (l:Addr) (x:fu) (st:dY) (load:List Int),vs=[v,u,.ref l]/\At H (gZ x) v/\At H (jR st) u/\zZ x/\qZ st/\H l=some (.lst (load.map V.int))/\load.length<=1000 /\
 ∀p xs H',aL H H'->H p=none->H' p=some (.lst xs)->aa H' ((iI x st load).map cY) xs->Q (.ref p) H'
theorem wO:aR ["post","stand","load","told","come","done","away","change"] ["post","stand","load"] (aC um):=(by walk_at "c")
theorem H_ (F:jh K "played" "played" um f fd) (B:Bi mg) (cI:Jr P w K mg base k "beat_beats" ["post","stand","come","free"] 12 yd):bD P w K mg base fY (k+1) f fd ["post","stand","load"] Aj:=by
 refine F.ok wO (by rintro vs H Q E ⟨v,u,l,x,st,load,rfl,_⟩; rfl) (fun cdv A outer s H vs Q E hr h=>?_)
 obtain⟨pA,sA,l,x,st,load,rfl,a1,a2,hx,hs,hl,hz,q⟩:=h;have ND:=wO.nd;refine⟨_,(aq (aQ (i:=3) ND rfl (by walk_at "o") (bV aj)) (aq (gP PassesOwn.never rfl (bH (K:=K) rfl (pv 2)) (aF (i:=4) ND rfl (by walk_at "o")) (aq (eE (pfd cI hr (ak (pv 0) (ak (pv 1) (ak (pv 4) aj)))) (bT (K:=K) (n:=4) rfl rfl (aG (aF (i:=1) ND rfl (by walk_at "o")) (aG (aF (i:=5) ND rfl (by walk_at "o")) (aG (aF (i:=6) ND rfl (by walk_at "o")) (aG (aF (i:=7) ND rfl (by walk_at "o")) bQ)))))) (aH (cZ (gU (K:=K) rfl PySem.F.plainAttrs_list PySem.F.slot_list_append PySem.F.type_list_append dU (pv 3) (ak (bj (ak (pv 5) (ak (pv 6) (ak (pv 7) aj)))) aj)))))) (aH (aY (pv 3))))),?_⟩
 walk_at "rd";refine⟨(by decide),fun p H1 f1 s1 e1=>?_⟩
 rw[oX];walk_at "rd";have pl:l≠p:=fun z=>by rw[z,f1] at hl; cases hl
 refine LK.of (s1 _ _ hl) (fun i σ H'=>∃(u:V) (o1 o2 o3 o4:Option V) (xs:List V),σ=[some pA,some u,some (.ref l),some (.ref p),o1,o2,o3,o4]/\At H' (jR (bC x st (load.take i))) u/\H' p=some (.lst xs)/\aa (hid p H') ((iI x st (load.take i)).map cY) xs/\SX p H H')
  ⟨_,_,_,_,_,_,rfl,a2.mono s1,e1,aa.nil,SX.of s1⟩ (fun i σ H' _ ⟨_,_,_,_,_,_,_,_,_,_,sx⟩=>sx.get pl hl) ?_ ?_
 ·rintro i y σ H2 hy ⟨u,o1,o2,o3,o4,xs,rfl,a3,e3,a4,sx⟩;rw[dw] at hy;obtain⟨c,hc,rfl⟩:=yw.mp hy;walk_at "rd";have sH:=SX.same f1 sx;refine⟨pA,u,x,_,c,12,rfl,a1.mono sH,a3,hx,vG hx hs,fun p5 u5 H5 s5 a5 e5=>?_⟩;refine⟨p5,_,rfl,fW.of e5,rfl,?_⟩;walk_at "rd";refine⟨.inl ⟨rfl,_,cV.of (s5 _ _ e3)⟩,(by decide),fun p6 H6 f6 s6 e6=>?_⟩
  have U5:=s5.trans s6;have YQ:=U5 _ _ e3;have n6:p6≠p:=fun z=>by rw[<- z] at e3; rw[s5 _ _ e3] at f6; cases f6
  have hn:xs.length=(load.take i).length:=by rw[a4.length,cT,qM]
  have hi:i<load.length:=(eN.mp hc).1;refine⟨p,xs,_,rfl,rfl,YQ,aW (by rw[hn,lH]; omega),?_⟩
  have hg:=take_snoc hc;rw[hg,dD,pI];refine⟨u5,_,_,_,_,_,rfl,?_,aA,?_,(sx.trans (SX.of U5)).trans SX.upd⟩
  ·exact((At.BJ YQ _ _ (mD _) (a5.mono s6)).mono (by rw[<- mK (o:=HO.lst (xs++[V.ref p6]))]; exact aL.refl _)).mono dW
  ·rw[mK,jK];exact aa.append (a4.mono (aL.hid U5)) (aa.cons (At.tup (by rw[cg n6]; exact e6) (cG _)) aa.nil)
 ·rintro σ H2 ⟨u,o1,o2,o3,o4,xs,rfl,a3,e3,a4,sx⟩;walk_at "rd";rw[cT,nY] at a4;exact q p xs H2 (SX.same f1 sx) f1 e3 (a4.mono dW)
def FQ:Sp:=fun vs H Q _=>∃(v u:V) (l:Addr) (x:fu) (st:dY) (load:List Int),vs=[v,u,.ref l]/\At H (gZ x) v/\At H (jR st) u/\zZ x/\qZ st/\H l=some (.lst (load.map V.int)) /\
 ∀u' H',aL H H'->At H' (jR (bC x st load)) u'->Q u' H'
theorem Am:aR ["post","stand","load","come"] ["post","stand","load"] (aC yh):=(by walk_at "c")
theorem La (F:jh K "after" "after" yh f fd) (B:Bi mg) (cI:Jr P w K mg base k "beat_beats" ["post","stand","come","free"] 12 yd):bD P w K mg base fY (k+1) f fd ["post","stand","load"] FQ:=by
 refine F.ok Am (by rintro vs H Q E ⟨v,u,l,x,st,load,rfl,_⟩; rfl) (fun cdv A outer s H vs Q E hr h=>?_)
 obtain⟨pA,sA,l,x,st,load,rfl,a1,a2,hx,hs,hl,q⟩:=h;have ND:=Am.nd;refine⟨_,(aq (gP PassesOwn.never rfl (bH (K:=K) rfl (pv 2)) (aF (i:=3) ND rfl (by walk_at "o")) (aH (aQ (i:=1) ND rfl (by walk_at "o") (bw bf (pfd cI hr (ak (pv 0) (ak (pv 1) (ak (pv 3) aj)))) ao (fun _ _=>rfl))))) (aH (aY (pv 1)))),?_⟩
 walk_at "rd";rw[oX];walk_at "rd";refine LK.of hl (fun i σ H'=>∃(u:V) (o1:Option V),σ=[some pA,some u,some (.ref l),o1]/\At H' (jR (bC x st (load.take i))) u/\aL H H')
  ⟨_,_,rfl,a2,aL.refl _⟩ (fun i σ H' _ ⟨_,_,_,_,sm⟩=>sm _ _ hl) ?_ ?_
 ·rintro i y σ H2 hy ⟨u,o1,rfl,a3,sm⟩;rw[dw] at hy;obtain⟨c,hc,rfl⟩:=yw.mp hy;walk_at "rd";refine⟨pA,u,x,_,c,12,rfl,a1.mono sm,a3,hx,vG hx hs,fun p5 u5 H5 s5 a5 e5=>?_⟩;refine Ix.tup e5 (v:=u5) rfl ?_;have hg:=take_snoc hc;rw[hg,dD];exact⟨u5,_,rfl,a5,sm.trans s5⟩
 ·rintro σ H2 ⟨u,o1,rfl,a3,sm⟩;walk_at "rd";rw[cT,nY] at a3;exact q u H2 sm a3
structure Qp (r:jE):Prop where
 is:vI r
 g:r.g∈(["over","under","each"]:List Str)
 z:r.g = "each" -> r.t=0
 t:r.g ≠ "each" -> -12<=r.t/\r.t<=12/\r.t≠0
def J5:Sp:=fun vs H Q _=>∃(a:Addr) (n:Nat) (b:Bool),vs=[.ref a,.bl b]/\Tp H a n/\n<=800000000/\∀v r H',Qp r->At (hid a H') (yp r) v->Tp H' a (n+12)->SX a H H'->Q v H'
theorem Row.of {a:Addr} {n:Nat} {b:Bool} {H:Hp} {Q:VK} {E:XK} (t:Tp H a n) (hn:n<=800000000) (q:∀v r H',Qp r->At (hid a H') (yp r) v->Tp H' a (n+12)->SX a H H'->Q v H'):J5 ([.ref a,.bl b]++[]) H Q E:=⟨a,n,b,rfl,t,hn,q⟩
theorem Al:aR ["_law_tape_here","_law_small","_law_sign","_law_what","_law_span","_law_number","_law_step"] ["_law_tape_here","_law_small"] (aC yg):=(by walk_at "c")
theorem K_ (F:jh K "_law_row" "_law_row" yg f fd) (B:Bi mg) (aK:Ct P w K mg base k "_law_draw" ["_law_tape_here","_law_many"] fO) (dz:Ct P w K mg base k "_law_units" ["_law_tape_here"] mG):bD P w K mg base fY (k+1) f fd ["_law_tape_here","_law_small"] J5:=by
 refine F.ok Al (by rintro vs H Q E ⟨a,n,b,rfl,_⟩; rfl) (fun cdv A outer s H vs Q E hr h=>?_)
 obtain⟨a,n,b,rfl,tp,hn,q⟩:=h;have ND:=Al.nd;refine⟨_,(aq (aQ (i:=2) ND rfl (by walk_at "o") (bw bf (bV (ak gQ (ak gQ (ak gQ aj)))) (pf aK hr (ak (pv 0) (ak ao aj))) (fun _ _=>rfl))) (aq (aQ (i:=3) ND rfl (by walk_at "o") (bw bf (bV (ak gQ (ak gQ (ak gQ (ak gQ aj))))) (pf aK hr (ak (pv 0) (ak ao aj))) (fun _ _=>rfl))) (aq (aQ (i:=4) ND rfl (by walk_at "o") (cL (iH (pv 1)) (bw bf (bV (ak ao (ak ao (ak ao (ak (aO bA ao (pf aK hr (ak (pv 0) (ak ao aj)))) aj))))) (pf aK hr (ak (pv 0) (ak ao aj))) (fun _ _=>rfl)) (aO bA ao (pf aK hr (ak (pv 0) (ak ao aj)))))) (aq (aQ (i:=5) ND rfl (by walk_at "o") (cL (iH (pv 1)) (pf aK hr (ak (pv 0) (ak ao aj))) (pf dz hr (ak (pv 0) aj)))) (aq (di (aZ gJ (pv 2) gQ (bh _)) (aH (aY (bj (ak (pv 3) (ak (pv 4) (ak (pv 2) (ak (pb (fV rfl) B.max l_ (ak ao (ak (pv 5) aj))) (ak ao aj)))))))) bM) (aq (aQ (i:=6) ND rfl (by walk_at "o") (aO bA ao (pf aK hr (ak (pv 0) (ak (cL (iH (pv 1)) ao ao) aj))))) (aH (aY (bj (ak (pv 3) (ak (pv 4) (ak (pv 2) (ak (pv 5) (ak (cL (aZ uM (aO bA (pf aK hr (ak (pv 0) (ak ao aj))) (aO jy (pt (xP) B.int Mw (ak (gk gJ (pv 2) gQ (bh _)) aj)) ao)) ao (bh _)) (pv 6) (aO jx ao (pv 6))) aj)))))))))))))),?_⟩
 walk_at "rd";refine⟨(by decide),fun p1 H1 f1 s1 e1=>?_⟩
 refine cD.of (tp.same s1) (by omega) (by decide) (by decide) fun y1 H2 l2 u2 t2 s2=>?_
 have n1:p1≠a:=tp.ne f1;obtain⟨g,hg,eg⟩:=wY (ts:=["over","under","each"]) l2 u2;refine Ix.lst (s2.get n1 e1) eg ?_;refine⟨(by decide),fun p3 H3 f3 s3 e3=>?_⟩
 refine cD.of (t2.same s3) (by omega) (by decide) (by decide) fun y4 H4 l4 u4 t4 s4=>?_
 have n3:p3≠a:=t2.ne f3;obtain⟨w,hw,ew⟩:=wY (ts:=["come","done","wait","wait"]) l4 u4
 have hw':w∈(["come","done","wait"]:List Str):=by
  simp only[d_,cW,or_false] at hw ⊢;rcases hw with z | z | z | z
  ·exact .inl z
  ·exact .inr (.inl z)
  ·exact .inr (.inr z)
  ·exact .inr (.inr z)
 refine Ix.lst (s4.get n3 e3) ew ?_;have QG:SX a H H4:=(SX.of s1).trans (s2.trans ((SX.of s3).trans s4))
 have fin:∀(sp:Nat) (nn tt:Int) (H8:Hp) (m:Nat),(1<=sp/\sp<=4)->Tp H8 a m->m<=n+12->SX a H H8->(0<=nn/\nn<=1000000000000)->(g = "each" -> 1<=nn)->(g = "each" -> tt=0)->(g ≠ "each" -> -12<=tt/\tt<=12/\tt≠0)->∀p H',H8 p=none->aL H8 H'->H' p=some (.tup [.str w,.int sp,.str g,.int nn,.int tt])->Q (.ref p) H':=fun sp nn tt H8 m hsp t8 hm s8 hnn hge hz ht p H' fp sp' ep=>by
  have pa:p≠a:=t8.ne fp;refine q _ ⟨w,sp,g,nn,tt⟩ H' ⟨⟨hw',hsp,hnn,hge⟩,hg,hz,ht⟩ (At.tup (by rw[cg pa]; exact ep) ?_) ((t8.same sp').mono hm) (s8.trans (SX.of sp'))
  exact aa.cons (At.str _) (aa.cons (At.int _) (aa.cons (At.str _) (aa.cons (At.int _) (aa.cons (At.int _) aa.nil))))
 cases b with
 | false=>
  walk_at "rd";refine cD.of t4 (by omega) (by decide) (by decide) fun y5 H5 l5 u5 t5 s5=>?_
  walk_at "rd";refine vH.of t5 (by omega) fun num H6 l6 u6 t6 s6=>?_
  walk_at "rd";obtain⟨sp,hsp⟩:∃sp:Nat,1+y5=(sp:Int):=⟨(1+y5).toNat,by omega⟩
  rw[hsp];have sx:SX a H H6:=QG.trans (s5.trans s6);refine eF (fun c1=>?_) (fun c1=>?_)
  ·exact⟨(by decide),fin _ _ _ H6 _ (by omega) t6 (by omega) sx (by split <;> omega) (fun _=>by split <;> omega) (fun _=>rfl) (fun z=>absurd (yt c1) z)⟩
  ·have c1':=Hx c1;refine cD.of t6 (by omega) (by decide) (by decide) fun y8 H8 l8 u8 t8 s8=>?_
   walk_at "rd";refine cD.of t8 (by omega) (by decide) (by decide) fun y9 H9 l9 u9 t9 s9=>?_
   walk_at "rd";refine⟨.inr (by decide),?_⟩
   refine eF (fun c2=>?_) (fun c2=>?_)
   ·exact⟨(by decide),fin _ _ _ H9 _ (by omega) t9 (by omega) (sx.trans (s8.trans s9)) ⟨l6,u6⟩ (fun z=>absurd z c1') (fun z=>absurd z c1') (fun _=>by omega)⟩
   ·exact⟨(by decide),fin _ _ _ H9 _ (by omega) t9 (by omega) (sx.trans (s8.trans s9)) ⟨l6,u6⟩ (fun z=>absurd z c1') (fun z=>absurd z c1') (fun _=>by omega)⟩
 | true=>
  walk_at "rd";refine cD.of t4 (by omega) (by decide) (by decide) fun y5 H5 l5 u5 t5 s5=>?_
  walk_at "rd";refine⟨(by decide),fun p6 H6 f6 s6 e6=>?_⟩
  refine cD.of (t5.same s6) (by omega) (by decide) (by decide) fun y7 H7 l7 u7 t7 s7=>?_
  have n6:p6≠a:=t5.ne f6;obtain⟨x,hx,ex⟩:=mH (ts:=[1,1,1,1+y5]) l7 u7;refine Ix.lst (s7.get n6 e6) ex ?_
  have hx':1<=x/\x<=4:=by
   simp only[d_,cW,or_false] at hx;rcases hx with rfl | rfl | rfl | rfl <;> omega
  refine cD.of t7 (by omega) (by decide) (by decide) fun num H8 l8 u8 t8 s8=>?_
  walk_at "rd";obtain⟨sp,rfl⟩:∃sp:Nat,x=(sp:Int):=⟨x.toNat,by omega⟩
  have sx:SX a H H8:=QG.trans (s5.trans ((SX.of s6).trans (s7.trans s8)));refine eF (fun c1=>?_) (fun c1=>?_)
  ·exact⟨(by decide),fin _ _ _ H8 _ (by omega) t8 (by omega) sx (by split <;> omega) (fun _=>by split <;> omega) (fun _=>rfl) (fun z=>absurd (yt c1) z)⟩
  ·have c1':=Hx c1;refine cD.of t8 (by omega) (by decide) (by decide) fun y8 H9 l9 u9 t9 s9=>?_
   walk_at "rd";refine cD.of t9 (by omega) (by decide) (by decide) fun y9 G6 l10 u10 Yi yj=>?_
   walk_at "rd";refine⟨.inr (by decide),?_⟩
   refine eF (fun c2=>?_) (fun c2=>?_)
   ·exact⟨(by decide),fin _ _ _ G6 _ (by omega) Yi (by omega) (sx.trans (s9.trans yj)) (by omega) (fun z=>absurd z c1') (fun z=>absurd z c1') (fun _=>by omega)⟩
   ·exact⟨(by decide),fin _ _ _ G6 _ (by omega) Yi (by omega) (sx.trans (s9.trans yj)) (by omega) (fun z=>absurd z c1') (fun z=>absurd z c1') (fun _=>by omega)⟩
theorem N5 (r:jE):sZ (yp r)=true:=rfl
theorem Aq (rs:List jE):sZ (ux rs)=true:=by
 show bJ (rs.map yp)=true;exact bz.mpr fun d hd=>by obtain⟨r,_,rfl⟩:=lF.mp hd; rfl
structure Uu (rs:List jE):Prop where
 lo:1<=rs.length
 hi:rs.length<=4
 g:∀r∈rs,Qp r
def xZ:Sp:=fun vs H Q _=>∃(a:Addr) (n:Nat) (bs:Bool),vs=[.ref a,.bl bs]/\Tp H a n/\n<=700000000/\∀p iC H',iC.length<=3->(∀rs∈iC,Uu rs)->At (hid a H') (yl iC) (.ref p)->Tp H' a (n+300)->SX a H H'->Q (.ref p) H'
theorem uf:aR ["_law_tape_here","_law_small","_law_rules_here","_law_k"] ["_law_tape_here","_law_small"] (aC qz):=(by walk_at "c")
theorem DY (F:jh K "_law_rules" "_law_rules" qz f fd) (B:Bi mg) (aK:Ct P w K mg base k "_law_draw" ["_law_tape_here","_law_many"] fO) (Ql:Ct P w K mg base k "_law_row" ["_law_tape_here","_law_small"] J5):bD P w K mg base fY (k+1) f fd ["_law_tape_here","_law_small"] xZ:=by
 refine F.ok uf (by rintro vs H Q E ⟨a,n,bs,rfl,_⟩; rfl) (fun cdv A outer s H vs Q E hr h=>?_)
 obtain⟨a,n,bs,rfl,tp,hn,q⟩:=h;have ND:=uf.nd;refine⟨_,(aq (aQ (i:=2) ND rfl (by walk_at "o") (bV aj)) (aq (gP PassesOwn.never rfl (dR (by rfl) B.range (ak (pf aK hr (ak (pv 0) (ak (cL (iH (pv 1)) ao ao) aj))) aj)) (aF (i:=3) ND rfl (by walk_at "o")) (aH (cZ (gU (K:=K) rfl PySem.F.plainAttrs_list PySem.F.slot_list_append PySem.F.type_list_append dU (pv 2) (ak (pt (jP) B.tuple lY (ak (cP (N':=["_law_j","_law_tape_here","_law_small"]) (js:=[0,1]) rfl (dR (by rfl) B.range (ak (aO bA ao (pf aK hr (ak (pv 0) (ak (cL (iH (pv 1)) ao ao) aj)))) aj)) qt.mk2 rfl (by decide) rfl (fun fp s' H'=>(pf Ql hr (ak (pv 1) (ak (pv 2) aj))))) aj)) aj))))) (aH (aY (pt (jP) B.tuple lY (ak (pv 2) aj)))))),?_⟩
 walk_at "rd";refine⟨iY _,fun p H1 f1 s1 e1=>?_⟩;have pa:p≠a:=tp.ne f1;rw[tU];walk_at "rd";refine(fun(hT:∀(m:Int) (H2:Hp),0<=m->m<4->Tp H2 a (n+1)->SX a H1 H2->FK _ _ _ _ [.int m] H2)=>eF (fun _=>cD.of (tp.same s1) (by omega) (by decide) (by decide) fun m H2 l2 u2 t2 s2=>hT m H2 l2 (by omega) t2 s2) (fun _=>cD.of (tp.same s1) (by omega) (by decide) (by decide) fun m H2 l2 u2 t2 s2=>hT m H2 l2 (by omega) t2 s2)) ?_
 intro m H2 l2 u2 t2 s2;refine FK.of (n:=m.toNat) (by omega) (by omega) (fun i σ H'=>∃(iC:List (List jE)) (ys:List V) (o3:Option V),σ=[some (.ref a),some (.bl bs),some (.ref p),o3]/\iC.length=i/\ys.length=i/\(∀rs∈iC,Uu rs)/\H' p=some (.lst ys)/\aa (hid p (hid a H')) (iC.map ux) ys/\Tp H' a (n+1+60*i)/\SX a H H')
  ⟨[],[],_,rfl,rfl,rfl,fun d h=>by simp at h,s2.get pa e1,aa.nil,t2,(SX.of s1).trans s2⟩ ?_ ?_
 ·rintro i σ H3 hi ⟨iC,ys,o3,rfl,ld,ly,od,h3,a3,t3,s3⟩;walk_at "rd";refine⟨.inl ⟨rfl,_,cV.of h3⟩,?_⟩;rw[qu];walk_at "rd";refine(fun(hT:∀(r:Int) (H4:Hp),0<=r->r<4->Tp H4 a (n+1+60*i+1)->SX a H3 H4->∃Yu j_1,V.int 1=V.int Yu/\V.int r=V.int j_1/\CK _ _ _ _ [.int (Yu+j_1)] H4)=>eF (fun _=>cD.of t3 (by omega) (by decide) (by decide) fun r H4 l4 u4 t4 s4=>hT r H4 l4 (by omega) t4 s4) (fun _=>cD.of t3 (by omega) (by decide) (by decide) fun r H4 l4 u4 t4 s4=>hT r H4 l4 (by omega) t4 s4)) ?_
  intro r H4 l4 u4 t4 s4;have h4:=s4.get pa h3;walk_at "rd";refine CK.of (n:=(1+r).toNat) (by omega) (by omega) fun acc hacc=>?_
  have ca:acc≠a:=t4.ne hacc;have cp:acc≠p:=fun z=>by subst z; rw[hacc] at h4; cases h4
  refine⟨fun j zs H'=>∃es:List jE,es.length=j/\zs.length=j/\(∀d∈es,Qp d)/\aa (hid acc (hid a H')) (es.map yp) zs/\H' acc=some (.lst zs)/\Tp H' a (n+1+60*i+1+12*j)/\SX a H4 H',?_,?_,?_⟩
  ·exact⟨[],rfl,rfl,fun d h=>by simp at h,aa.nil,aA,t4.eV ca,(SX.refl a H4).eV hacc ca⟩
  ·rintro j zs H5 hj ⟨es,le,lz,oe,a5,c5,t5,s5⟩;show kI _ _ _ _ [some _,some (.ref a),some (.bl bs)] H5 _;walk_at "rd";refine Row.of t5 (by omega) fun v d H6 rk a6 t6 s6=>?_
   have c6:=s6.get ca c5;have c6':hid a H6 acc=some (.lst zs):=by rw[cg ca]; exact c6
   refine⟨c6,(by rw[lz]; exact aW (by omega)),es++[d],by rw[dh,le]; rfl,by rw[dh,lz]; rfl,fun x hx=>?_,?_,aA,?_,?_⟩
   ·rcases fC.mp hx with z | z
    ·exact oe x z
    ·rw[gF.mp z]; exact rk
   ·rw[cM ca,mK,jK];exact(a5.mono (aL.hid s6)).append (aa.cons (At.BJ c6' _ v (N5 d) a6) aa.nil)
   ·exact(t6.eV ca).mono (by omega)
   ·exact(s5.trans s6).eV hacc ca
  ·rintro zs H6 ⟨es,le,lz,oe,a6,c6,t6,s6⟩;have h6:=s6.get pa h4;refine⟨acc,zs,rfl,c6,fun l hl=>?_⟩;have la:l≠a:=t6.ne hl;have lp:l≠p:=fun z=>by subst z; rw[hl] at h6; cases h6
   refine⟨p,ys,_,rfl,rfl,by rw[aJ (Ne.symm lp)]; exact h6,by rw[ly]; exact aW (by omega),?_⟩
   have A1:At (hid a (upd H6 l (.tup zs))) (ux es) (.ref l):=by
    rw[cM la];have fr:hid a H6 l=none:=by rw[cg la]; exact hl
    exact At.tup aA ((a6.mono dW).mono (aN fr _))
   have h7:hid a (upd H6 l (.tup zs)) p=some (.lst ys):=by rw[cg pa,aJ (Ne.symm lp)]; exact h6
   have s67:SX a H3 (upd H6 l (.tup zs)):=(s4.trans s6).trans (SX.of (aN hl _));refine⟨iC++[es],ys++[.ref l],_,rfl,by rw[dh,ld]; rfl,by rw[dh,ly]; rfl,fun x hx=>?_,aA,?_,?_,?_⟩
   ·rcases fC.mp hx with z | z
    ·exact od x z
    ·rw[gF.mp z]; exact⟨by omega,by omega,oe⟩
   ·rw[cM pa,mK,jK];exact(a3.mono (aL.hid s67)).append (aa.cons (At.BJ h7 _ _ (Aq es) A1) aa.nil)
   ·exact((t6.eV la).eV pa).mono (by omega)
   ·exact(s3.trans s67).eV f1 pa
 ·rintro σ H3 ⟨iC,ys,o3,rfl,ld,ly,od,h3,a3,t3,s3⟩;walk_at "rd";refine⟨p,ys,rfl,h3,fun l hl=>?_⟩;have la:l≠a:=t3.ne hl;refine q l iC _ (by omega) od ?_ ((t3.eV la).mono (by omega)) (s3.trans (SX.of (aN hl _)))
  rw[cM la];have fr:hid a H3 l=none:=by rw[cg la]; exact hl
  exact At.tup aA ((a3.mono dW).mono (aN fr _))
structure Qq (x:fu):Prop where
 p:1<=x.p/\x.p<=1000000
 m:M7 x.m
 lo:0<=x.lo/\x.lo<=x.hi
 hi:x.hi<=12
 a:x.a<=4
 e:1<=x.e/\x.e<=6
 u:0<=x.u/\x.u<=9
 d:0<=x.d/\x.d<=9
 n:x.iC.length<=3
 r:∀rs∈x.iC,Uu rs
theorem Qq.is {x:fu} (h:Qq x):zZ x:=⟨h.a,by have:=h.p; omega,by have:=h.n; omega,fun rs hrs r hr=>((h.r rs hrs).g r hr).is⟩
def x_:Sp:=fun vs H Q _=>∃(a:Addr) (n:Nat),vs=[.ref a]/\Tp H a n/\n<=100000000/\∀p x H',Qq x->At (hid a H') (gZ x) (.ref p)->Tp H' a (n+400)->SX a H H'->Q (.ref p) H'
theorem iJ:aR ["_law_tape_here","_law_least","_law_hands","_law_rests","_law_late","_law_every"] ["_law_tape_here"] (aC iw):=(by walk_at "c")
theorem rP (F:jh K "_law_small_post" "_law_small_post" iw f fd) (B:Bi mg) (aK:Ct P w K mg base k "_law_draw" ["_law_tape_here","_law_many"] fO) (qP:Ct P w K mg base k "_law_rules" ["_law_tape_here","_law_small"] xZ):bD P w K mg base fY (k+1) f fd ["_law_tape_here"] x_:=by
 refine F.ok iJ (by rintro vs H Q E ⟨a,n,rfl,_⟩; rfl) (fun cdv A outer s H vs Q E hr h=>?_)
 obtain⟨a,n,rfl,tp,hn,q⟩:=h;have ND:=iJ.nd;refine⟨_,(aq (aQ (i:=1) ND rfl (by walk_at "o") (pf aK hr (ak (pv 0) (ak ao aj)))) (aq (aQ (i:=2) ND rfl (by walk_at "o") (bj (ak (pv 1) (ak (aO bA (aO bA (pv 1) ao) (pf aK hr (ak (pv 0) (ak ao aj)))) aj)))) (aq (aQ (i:=3) ND rfl (by walk_at "o") (bw bf (bV (ak (bj (ak ao (ak ao aj))) (ak (bj (ak ao (ak ao aj))) (ak (bj (ak ao (ak ao aj))) (ak (bj (ak ao (ak ao aj))) aj))))) (pf aK hr (ak (pv 0) (ak ao aj))) (fun _ _=>rfl))) (aq (qL (i:=4) (j:=5) rfl ND rfl rfl (by decide) rfl rfl (ak (bw bf (bV (ak ao (ak ao (ak ao (ak ao aj))))) (pf aK hr (ak (pv 0) (ak ao aj))) (fun _ _=>rfl)) (ak (bw bf (bV (ak ao (ak ao (ak ao (ak ao aj))))) (pf aK hr (ak (pv 0) (ak ao aj))) (fun _ _=>rfl)) aj)) (by rfl)) (aH (aY (bj (ak (aO bA ao (pf aK hr (ak (pv 0) (ak ao aj)))) (ak (aO bA ao (pf aK hr (ak (pv 0) (ak ao aj)))) (ak (pv 2) (ak (pv 4) (ak (pv 5) (ak (pv 3) (ak (pf qP hr (ak (pv 0) (ak uL aj))) aj)))))))))))))),?_⟩
 walk_at "rd";refine cD.of tp (by omega) (by decide) (by decide) fun y1 H1 l1 u1 t1 s1=>?_
 walk_at "rd";refine cD.of t1 (by omega) (by decide) (by decide) fun y2 H2 l2 u2 t2 s2=>⟨_,_,rfl,rfl,(by decide),fun p3 H3 f3 s3 e3=>?_⟩
 have n3:=t2.ne f3;refine⟨(by decide),fun q1 G1 g1 r1 d1=>⟨(by decide),fun q2 G2 g2 r2 d2=>⟨(by decide),fun q3 G3 g3 r3 d3=>⟨(by decide),fun q4 G4 g4 r4 d4=>⟨(by decide),fun p4 H4 f4 s4 e4=>?_⟩⟩⟩⟩⟩
 have x34:aL H3 H4:=r1.trans (r2.trans (r3.trans (r4.trans s4)));have t4:=(t2.same s3).same x34;have m1:=((t2.same s3)).ne g1;have m2:=((t2.same s3).same r1).ne g2;have m3:=(((t2.same s3).same r1).same r2).ne g3;have m4:=((((t2.same s3).same r1).same r2).same r3).ne g4;have n4:=(((((t2.same s3).same r1).same r2).same r3).same r4).ne f4;refine cD.of t4 (by omega) (by decide) (by decide) fun y5 H5 l5 u5 t5 s5=>?_
 have pick:∃(pr:Addr) (uu dd:Int),Ck [V.ref q1,V.ref q2,V.ref q3,V.ref q4] y5=some (.ref pr)/\pr≠a/\H5 pr=some (.tup [.int uu,.int dd])/\(0<=uu/\uu<=9)/\(0<=dd/\dd<=9):=by
  have:y5=0\/y5=1\/y5=2\/y5=3:=by omega
  rcases this with rfl | rfl | rfl | rfl
  ·exact⟨q1,0,0,aU (j:=0) rfl,m1,s5.get m1 (s4 _ _ (r4 _ _ (r3 _ _ (r2 _ _ d1)))),by decide,by decide⟩
  ·exact⟨q2,1,0,aU (j:=1) rfl,m2,s5.get m2 (s4 _ _ (r4 _ _ (r3 _ _ d2))),by decide,by decide⟩
  ·exact⟨q3,0,1,aU (j:=2) rfl,m3,s5.get m3 (s4 _ _ (r4 _ _ d3)),by decide,by decide⟩
  ·exact⟨q4,2,1,aU (j:=3) rfl,m4,s5.get m4 (s4 _ _ d4),by decide,by decide⟩
 obtain⟨pr,uu,dd,ep,npr,epr,hu,hd⟩:=pick;refine Ix.lst (s5.get n4 e4) ep ?_;refine⟨(by decide),fun p6 H6 f6 s6 e6=>?_⟩
 have t6:=t5.same s6;have n6:=t5.ne f6;refine cD.of t6 (by omega) (by decide) (by decide) fun y7 H7 l7 u7 t7 s7=>?_
 obtain⟨lt,hlt,elt⟩:=mH (ts:=[0,1,0,2]) l7 u7
 have hlt':0<=lt/\lt<=2:=by
  simp only[d_,cW,or_false] at hlt;rcases hlt with rfl | rfl | rfl | rfl <;> omega
 refine Ix.lst (s7.get n6 e6) elt ?_;clear elt hlt l7 u7;refine⟨(by decide),fun p8 H8 f8 s8 e8=>?_⟩
 have t8:=t7.same s8;have n8:=t7.ne f8;refine cD.of t8 (by omega) (by decide) (by decide) fun y9 H9 l9 u9 t9 s9=>?_
 obtain⟨ev,hev,eev⟩:=mH (ts:=[1,2,1,3]) l9 u9
 have aev:1<=ev/\ev<=3:=by
  simp only[d_,cW,or_false] at hev;rcases hev with rfl | rfl | rfl | rfl <;> omega
 refine Ix.lst (s9.get n8 e8) eev ⟨_,_,rfl,?_⟩;clear eev hev l9 u9;refine cD.of t9 (by omega) (by decide) (by decide) fun y10 G6 l10 u10 Yi yj=>⟨_,_,rfl,rfl,?_⟩
 refine cD.of Yi (by omega) (by decide) (by decide) fun y11 UG l11 u11 ZM QV=>⟨_,_,rfl,rfl,?_⟩
 refine⟨a,_,true,rfl,ZM,by omega,fun p14 iC H14 Tt Tr a14 V6 Wg=>⟨(by decide),fun p15 Uz Xv RV Qe=>?_⟩⟩
 have n15:=V6.ne Xv;obtain⟨la,hla⟩:∃la:Nat,lt=(la:Int):=⟨lt.toNat,by omega⟩
 rw[hla] at Qe;have x5:SX a H5 Uz:=(SX.of s6).trans (s7.trans ((SX.of s8).trans (s9.trans (yj.trans (QV.trans (Wg.trans (SX.of RV)))))));have x3:SX a H3 Uz:=(SX.of x34).trans (s5.trans x5);refine q p15 ⟨1+y10,3+y11,y1,y1+1+y2,la,ev,uu,dd,iC⟩ Uz ⟨by show 1<=1+y10/\1+y10<=1000000; omega,by show 0<=3+y11/\3+y11<=1000000000000; omega,by show 0<=y1/\y1<=y1+1+y2; omega,by show y1+1+y2<=12; omega,by show la<=4; omega,by show 1<=ev/\ev<=6; omega,hu,hd,Tt,Tr⟩ ?_ ((V6.same RV).mono (by omega)) ?_
 ·exact At.tup (by rw[cg n15]; exact Qe) (aa.cons (At.int _) (aa.cons (At.int _) (aa.cons (At.tup (by rw[cg n3]; exact x3.get n3 e3) (cG [y1,y1+1+y2])) (aa.cons (At.int _) (aa.cons (At.int _) (aa.cons (At.tup (by rw[cg npr]; exact x5.get npr epr) (cG [uu,dd])) (aa.cons (a14.mono (SX.of RV)) aa.nil)))))))
 ·exact s1.trans (s2.trans ((SX.of s3).trans x3))
theorem wR:aR ["_law_tape_here","_law_pace","_law_most","_law_hands","_law_rests","_law_late","_law_every"] ["_law_tape_here"] (aC ur):=(by walk_at "c")
theorem Ib (F:jh K "_law_post" "_law_post" ur f fd) (B:Bi mg) (aK:Ct P w K mg base k "_law_draw" ["_law_tape_here","_law_many"] fO) (dz:Ct P w K mg base k "_law_units" ["_law_tape_here"] mG) (qP:Ct P w K mg base k "_law_rules" ["_law_tape_here","_law_small"] xZ):bD P w K mg base fY (k+1) f fd ["_law_tape_here"] x_:=by
 refine F.ok wR (by rintro vs H Q E ⟨a,n,rfl,_⟩; rfl) (fun cdv A outer s H vs Q E hr h=>?_)
 obtain⟨a,n,rfl,tp,hn,q⟩:=h;have ND:=wR.nd;refine⟨_,(aq (aQ (i:=1) ND rfl (by walk_at "o") (bw bf (bV (ak ao (ak (aO bA ao (pf aK hr (ak (pv 0) (ak ao aj)))) (ak (aO bA ao (pf aK hr (ak (pv 0) (ak (aO ou ao ao) aj)))) aj)))) (pf aK hr (ak (pv 0) (ak ao aj))) (fun _ _=>rfl))) (aq (aQ (i:=2) ND rfl (by walk_at "o") (pf aK hr (ak (pv 0) (ak ao aj)))) (aq (aQ (i:=3) ND rfl (by walk_at "o") (bj (ak (pf aK hr (ak (pv 0) (ak (aO bA (pv 2) ao) aj))) (ak (pv 2) aj)))) (aq (aQ (i:=4) ND rfl (by walk_at "o") (bj (ak (pf aK hr (ak (pv 0) (ak ao aj))) (ak (pf aK hr (ak (pv 0) (ak ao aj))) aj)))) (aq (qL (i:=5) (j:=6) rfl ND rfl rfl (by decide) rfl rfl (ak (pf aK hr (ak (pv 0) (ak ao aj))) (ak (aO bA ao (pf aK hr (ak (pv 0) (ak ao aj)))) aj)) (by rfl)) (aH (aY (bj (ak (pv 1) (ak (pf dz hr (ak (pv 0) aj)) (ak (pv 3) (ak (pv 5) (ak (pv 6) (ak (pv 4) (ak (pf qP hr (ak (pv 0) (ak uL aj))) aj))))))))))))))),?_⟩
 have e6:(10:Int) ^ Int.toNat 6=1000000:=by decide
 walk_at "rd";refine cD.of tp (by omega) (by decide) (by decide) fun y1 H1 l1 u1 t1 s1=>?_
 walk_at "rd";refine⟨⟨by decide,by decide,by decide⟩,cD.of t1 (by omega) (by decide) (by decide) fun y2 H2 l2 u2 t2 s2=>⟨_,_,rfl,rfl,(by decide),fun p3 H3 f3 s3 e3=>?_⟩⟩
 rw[e6] at u2;have n3:=t2.ne f3;refine cD.of (t2.same s3) (by omega) (by decide) (by decide) fun y4 H4 l4 u4 t4 s4=>?_
 obtain⟨pc,hpc,epc⟩:=mH (ts:=[1,1+y1,1+y2]) l4 u4
 have aat:1<=pc/\pc<=1000000:=by
  simp only[d_,cW,or_false] at hpc;rcases hpc with rfl | rfl | rfl <;> omega
 refine Ix.lst (s4.get n3 e3) epc ?_;clear hpc epc l4 u4;refine cD.of t4 (by omega) (by decide) (by decide) fun y5 H5 l5 u5 t5 s5=>⟨_,_,rfl,rfl,?_⟩
 refine cD.of t5 (by omega) (by omega) (by omega) fun y6 H6 l6 u6 t6 s6=>⟨(by decide),fun p7 H7 f7 s7 e7=>?_⟩
 have n7:=t6.ne f7;refine cD.of (t6.same s7) (by omega) (by decide) (by decide) fun y8 H8 l8 u8 t8 s8=>?_
 refine cD.of t8 (by omega) (by decide) (by decide) fun y9 H9 l9 u9 t9 s9=>⟨(by decide),fun p10 G6 YL yj e10=>?_⟩
 have n10:=t9.ne YL;refine cD.of (t9.same yj) (by omega) (by decide) (by decide) fun y11 UG l11 u11 ZM QV=>?_
 refine cD.of ZM (by omega) (by decide) (by decide) fun y12 H12 l12 u12 t12 s12=>⟨_,_,rfl,rfl,_,_,rfl,?_⟩
 refine vH.of t12 (by omega) fun y13 H13 l13 u13 t13 Ga=>?_
 refine⟨a,_,false,rfl,t13,by omega,fun p14 iC H14 Tt Tr a14 V6 Wg=>⟨(by decide),fun p15 Uz Xv RV Qe=>?_⟩⟩
 have n15:=V6.ne Xv;obtain⟨la,hla⟩:∃la:Nat,y11=(la:Int):=⟨y11.toNat,by omega⟩
 rw[hla] at Qe;have x10:SX a G6 Uz:=QV.trans (s12.trans (Ga.trans (Wg.trans (SX.of RV))));have x7:SX a H7 Uz:=s8.trans (s9.trans ((SX.of yj).trans x10));refine q p15 ⟨pc,y13,y6,y5,la,1+y12,y8,y9,iC⟩ Uz ⟨aat,⟨l13,u13⟩,by show 0<=y6/\y6<=y5; omega,by show y5<=12; omega,by show la<=4; omega,by show 1<=1+y12/\1+y12<=6; omega,by show 0<=y8/\y8<=9; omega,by show 0<=y9/\y9<=9; omega,Tt,Tr⟩ ?_ ((V6.same RV).mono (by omega)) ?_
 ·exact At.tup (by rw[cg n15]; exact Qe) (aa.cons (At.int _) (aa.cons (At.int _) (aa.cons (At.tup (by rw[cg n7]; exact x7.get n7 e7) (cG [y6,y5])) (aa.cons (At.int _) (aa.cons (At.int _) (aa.cons (At.tup (by rw[cg n10]; exact x10.get n10 e10) (cG [y8,y9])) (aa.cons (a14.mono (SX.of RV)) aa.nil)))))))
 ·exact s1.trans (s2.trans ((SX.of s3).trans (s4.trans (s5.trans (s6.trans ((SX.of s7).trans x7))))))
def W4 (c:Nat):Bool:=!(Builtin.Str.occurrences (Str.ofString "abcdefghijklmnopqrstuvwxyz") (tx [c]) 0 (Str.ofString "abcdefghijklmnopqrstuvwxyz").length 1).isEmpty
def nameB (cs:List Nat):Bool:=decide (1<=cs.length)&&decide (cs.length<=8)&&cs.all W4
def Rf (c:Nat):Prop:=97<=c/\c<=122
structure MK (cs:List Nat):Prop where
 n:1<=cs.length/\cs.length<=8
 g:∀c∈cs,Rf c
theorem S8 {c:Nat} (h:Rf c):W4 c=true:=by
 have:∀d:Fin 26,W4 (97+d.val)=true:=by decide +kernel
 have h2:=this ⟨c-97,by have:=h.1; have:=h.2; omega⟩
 have e:97+(c-97)=c:=by have:=h.1; omega
 simpa[e] using h2
theorem MK.is {cs:List Nat} (h:MK cs):nameB cs=true:=by
 unfold nameB;rw[nW h.n.1,nW h.n.2,mW.mpr fun c hc=>S8 (h.g c hc)];rfl
def Di:Sp:=fun vs H Q _=>∃(cs:List Nat),vs=[.str (tx cs)]/\(∀c∈cs,c<128)/\cs.length<=1000/\∀H',aL H H'->Q (.bl (nameB cs)) H'
theorem uh:aR ["thing"] ["thing"] (aC qD):=(by walk_at "c")
theorem Ea (F:jh K "is_name" "is_name" qD f fd) (B:Bi mg) (O:Co K mg):bD P w K mg base fY (k+1) f fd ["thing"] Di:=by
 refine F.ok uh (by rintro vs H Q E ⟨cs,rfl,_⟩; rfl) (fun cdv A outer s H vs Q E hr h=>?_)
 obtain⟨cs,rfl,ha,hz,q⟩:=h;have ND:=uh.nd;refine⟨_,(aq (di (PW.pt (Bk (uF (iH (pb Px B.isinstance wF (ak (pv 0) (ak (pty (by rfl) B.str Ul) aj))))) (uE (uF (Bl Gj Gj ao (pb (qb) B.len eZ (ak (pv 0) aj)) (yG O.z8)))))) (aH (aY uL)) bM) (aH (aY (pb (mR rfl) B.all zW (ak (cP (N':=["sign"]) (js:=[]) rfl (R7 (pv 0)) qt.Q3 rfl (by decide) rfl (fun fp s' H'=>(gk HS (pv 0) (yF O.LETTERS) (by with_unfolding_all rfl)))) aj))))),?_⟩
 walk_at "rd";refine⟨.str (tx cs),_,rfl,At.str _,?_⟩;walk_at "rd";refine⟨tx cs,rfl,by rw[d7,sizeLine_eq]; omega,?_⟩
 rw[d7];refine Xd (fun h=>?_) (fun h=>?_)
 ·refine Xd (fun h2=>?_) (fun h2=>?_)
  ·have:nameB cs=false:=by
    have h3:¬cs.length<=8:=by simp at h2; omega
    unfold nameB; rw[lG h3]; simp
   rw[<- this]; exact q H (aL.refl H)
  ·refine Ug (l:=cs) (f:=W4) (fun R hR=>by walk_at "rd"; exact hR) ha (by rw[sizeLine_eq]; omega) (fun c H1 s1 R hR=>?_) fun acc H1 s1 e1=>?_
   ·walk_at "rd";exact⟨_,_,rfl,rfl,hR H1 (aL.refl H1)⟩
   ·refine⟨acc,_,rfl,e1,?_⟩;have h1:1<=cs.length:=by simp at h; omega
    have h3:cs.length<=8:=by simp at h2; omega
    have:nameB cs=(cs.map W4).all id:=by unfold nameB; rw[nW h1,nW h3,List.all_map]; rfl
    rw[<- this]; exact q H1 s1
 ·have:nameB cs=false:=by
   have h3:¬1<=cs.length:=fun z=>h (by simp; omega)
   unfold nameB; rw[lG h3]; simp
  rw[<- this]; exact q H (aL.refl H)
theorem Name.of {cs:List Nat} {H:Hp} {Q:VK} {E:XK} (h:MK cs) (q:∀H',aL H H'->Q (.bl true) H'):Di ([.str (tx cs)]++[]) H Q E:=
 ⟨cs,rfl,fun c hc=>by have:=(h.g c hc).2; omega,by have:=h.n.2; omega,fun H' s'=>by rw[h.is]; exact q H' s'⟩
theorem Ln:∀cs:List Nat,jn [] (cs.map fun c=>[c])=cs
 | []=>rfl
 | [c]=>rfl
 | c::d::r=>by
  show[c]++[]++jn [] ((d::r).map fun c=>[c])=_;rw[Ln (d::r)]; rfl
theorem letter {i:Int} (h0:0<=i) (h1:i<26):Ck (Str.ofString "abcdefghijklmnopqrstuvwxyz").cps.toList i=some (97+i.toNat):=by
 obtain⟨j,rfl⟩:∃j:Nat,i=(j:Int):=⟨i.toNat,by omega⟩
 have hl:(Str.ofString "abcdefghijklmnopqrstuvwxyz").cps.toList=(List.range 26).map (97 + ·):=by decide +kernel
 rw[hl];refine aU ?_;rw[dw,List.getElem?_range (by omega)]
 rfl
theorem J7 (l:List Nat) {j:Int} (h0:0<=j) (h1:j<=l.length):Txt.slice (tx l) none (some j)=tx (l.take j.toNat):=by
 have:=beq_iff_eq.mp (PyProof.Rows.slice_closes_toL (x:=tx l) h0 (by rw[d7]; exact h1))
 rw[this,xX];simp[tx]
theorem J8 (l:List Nat) {j:Int} (h0:0<=j) (h1:j<=l.length):Txt.slice (tx l) (some j) none=tx (l.drop j.toNat):=by
 have:=beq_iff_eq.mp (PyProof.Rows.slice_closes_fromL (x:=tx l) (b:=(tx l).length) h0 (by rw[d7]; exact h1) rfl)
 rw[this,xX,d7];unfold tx
 congr 2
 exact Kq (by rw[Az]; omega)
theorem Hs {m:Nat} {g:Nat->Option Nat} (h:∀i j,i<j->j<m->g i≠g j):((List.range m).map g).Nodup:=by
 unfold List.Nodup;rw[List.pairwise_map];refine List.Pairwise.imp_of_mem ?_ List.pairwise_lt_range;intro a b ha hb hab;exact h a b hab (List.mem_range.mp hb)
def M6 (y:Int) (i:Nat):Nat:=97+((y+7*(i:Int)) % 26).toNat
theorem XM (y:Int) (i:Nat):Rf (M6 y i):=by
 unfold M6 Rf;have:=uA (y+7*(i:Int)) (show(26:Int)≠0 by decide)
 have:=yu (y+7*(i:Int)) (show(0:Int)<26 by decide)
 omega
theorem XJ {y:Int} {i j:Nat} (h:i<j) (hj:j<26):M6 y i≠M6 y j:=by
 unfold M6;have:=uA (y+7*(i:Int)) (show(26:Int)≠0 by decide)
 have:=uA (y+7*(j:Int)) (show(26:Int)≠0 by decide)
 omega
theorem word {a:Addr} {n:Nat} {LT:Str} {r:St} {H:Hp} {Q:VK} (Xk:LT.length<=sizeLine) (Lq:∀i:Int,0<=i->i<26->Ck LT.cps.toList i=some (97+i.toNat)) (hc:cH [2,0] (some (.ref a)::r)=[some (.str LT),some (.ref a)]) (tp:Tp H a n) (hn:n<=200000000)
  (q:∀acc (cs:List Nat) H',cs.length<=7->(∀c∈cs,Rf c)->H' acc=some (.lst (cs.map fun c=>V.str (tx [c])))->Tp H' a (n+10)->SX a H H'->Q (.ref acc) H') :
  ir [2,0] (xq (oY (kI fO [] E0 (oY (rM 0) (oY (tC (V.int 8)) vK))) vK)) (Ry Wr (rM 1) (kI fO [] E0 (oY (rM 2) (oY (tC (V.int 26)) vK)))) (some (.ref a)::r) H Q:=by
 rw[qu];walk_at "rd";refine cD.of tp (by omega) (by decide) (by decide) fun y6 H6 l6 u6 t6 s6=>?_
 refine CK.of (n:=y6.toNat) (by omega) (by omega) fun acc hacc=>?_
 have ca:acc≠a:=t6.ne hacc;refine⟨fun j ws H'=>∃cs:List Nat,cs.length=j/\ws=cs.map (fun c=>V.str (tx [c]))/\(∀c∈cs,Rf c)/\H' acc=some (.lst ws)/\Tp H' a (n+1+j)/\SX a H6 H',?_,?_,?_⟩
 ·exact⟨[],rfl,rfl,fun d h=>by simp at h,aA,t6.eV ca,(SX.refl a H6).eV hacc ca⟩
 ·rintro j ws H7 hj ⟨cs,lc,rfl,hcs,c7,t7,s7⟩;rw[hc];walk_at "rd";refine cD.of t7 (by omega) (by decide) (by decide) fun y8 H8 l8 u8 t8 s8=>?_
  refine⟨LT,_,_,rfl,rfl,Xk,Lq y8 l8 u8,s8.get ca c7,by rw[cT,lc]; exact aW (by omega),cs++[97+y8.toNat],by rw[dh,lc]; rfl,by rw[jK]; rfl,fun x hx=>?_,aA,(t8.eV ca).mono (by omega),(s7.trans s8).eV hacc ca⟩
  rcases fC.mp hx with h | h
  ·exact hcs x h
  ·rw[gF.mp h]; unfold Rf; omega
 ·rintro ws H7 ⟨cs,lc,rfl,hcs,c7,t7,s7⟩;exact q acc cs H7 (by omega) hcs c7 (t7.mono (by omega)) (s6.trans s7)
theorem JZ {a p:Addr} {H H':Hp} (s:SX a H H') (n:p≠a) (h:H' p=none):H p=none:=by
 cases e:H p with
 | none=>rfl
 | some o=>rw[s.get n e] at h; cases h
theorem Gr {cs:List Nat} (h:cs.length<=7):((cs.map fun c=>tx [c]).map fun x=>x.length).sum+(cs.map fun c=>tx [c]).length*(Str.ofString "").length<=sizeLine:=by
 have:=StrLaws.sumLen_le (B:=1) (cs.map fun c=>tx [c]) (fun y hy=>by
  obtain⟨x,hx,rfl⟩:=lF.mp hy
  exact bG _)
 rw[cT] at this ⊢;rw[show(Str.ofString "").length=0 from rfl,sizeLine_eq];omega
def RM:Sp:=fun vs H Q _=>∃(a:Addr) (n m:Nat),vs=[.ref a,.int m]/\m<=20/\Tp H a n/\n<=100000000/\∀p (zs:List (List Nat)) H',H p=none->p≠a->zs.length=m->(∀z∈zs,MK z)->zs.Nodup->H' p=some (.lst (zs.map fun z=>V.str (tx z)))->Tp H' a (n+300)->SX a H H'->Q (.ref p) H'
theorem ug:aR ["_law_tape_here","_law_many","_law_letters","_law_first","_law_stem","_law_spot","_law_like","_law_found","_law_k","_law_letter"] ["_law_tape_here","_law_many"] (aC qC):=(by walk_at "c")
theorem D_ (F:jh K "_law_names" "_law_names" qC f fd) (B:Bi mg) (aK:Ct P w K mg base k "_law_draw" ["_law_tape_here","_law_many"] fO):bD P w K mg base fY (k+1) f fd ["_law_tape_here","_law_many"] RM:=by
 refine F.ok ug (by rintro vs H Q E ⟨a,n,m,rfl,_⟩; rfl) (fun cdv A outer s H vs Q E hr h=>?_)
 obtain⟨a,n,m,rfl,hm,tp,hn,q⟩:=h;have ND:=ug.nd;refine⟨_,(aq (eE (bj (ak gQ (ak (pf aK hr (ak (pv 0) (ak ao aj))) aj))) (bT (K:=K) (n:=2) rfl rfl (aG (aF (i:=2) ND rfl (by walk_at "o")) (aG (aF (i:=3) ND rfl (by walk_at "o")) bQ)))) (aq (aQ (i:=4) ND rfl (by walk_at "o") (gU (K:=K) rfl PySem.F.plainAttrs_str PySem.F.slot_str_join PySem.F.type_str_join Gm gQ (ak (cP (N':=["_law_k","_law_letters","_law_tape_here"]) (js:=[2,0]) rfl (dR (by rfl) B.range (ak (pf aK hr (ak (pv 0) (ak ao aj))) aj)) qt.mk2 rfl (by decide) rfl (fun fp s' H'=>(bw Ei (pv 1) (pf aK hr (ak (pv 2) (ak ao aj))) (fun _ _=>rfl)))) aj))) (aq (Gf (i:=5) (j:=6) (l:=7) rfl ND rfl rfl rfl rfl rfl rfl (ak (pf aK hr (ak (pv 0) (ak (aO bA (pb (qb) B.len eZ (ak (pv 4) aj)) ao) aj))) (ak (gk gJ (pf aK hr (ak (pv 0) (ak ao aj))) ao (bh _)) (ak (bV aj) aj))) (by rfl)) (aq (gP PassesOwn.never rfl (dR (by rfl) B.range (ak (pv 1) aj)) (aF (i:=8) ND rfl (by walk_at "o")) (aq (aQ (i:=9) ND rfl (by walk_at "o") (bw Ei (pv 2) (aO jY (aO bA (pv 3) (aO jy ao (pv 8))) ao) (fun _ _=>rfl))) (aH (di (iH (pv 6)) (aH (cZ (gU (K:=K) rfl PySem.F.plainAttrs_list PySem.F.slot_list_append PySem.F.type_list_append dU (pv 7) (ak (aO oA (aO oA (eQ J9 (pv 4) gf (gb (pv 5))) (pv 9)) (eQ J9 (pv 4) (gb (pv 5)) gf)) aj)))) (aH (cZ (gU (K:=K) rfl PySem.F.plainAttrs_list PySem.F.slot_list_append PySem.F.type_list_append dU (pv 7) (ak (aO oA (gU (K:=K) rfl PySem.F.plainAttrs_str PySem.F.slot_str_join PySem.F.type_str_join Gm gQ (ak (cP (N':=["_law_turn","_law_letters","_law_tape_here"]) (js:=[2,0]) rfl (dR (by rfl) B.range (ak (pf aK hr (ak (pv 0) (ak ao aj))) aj)) qt.mk2 rfl (by decide) rfl (fun fp s' H'=>(bw Ei (pv 1) (pf aK hr (ak (pv 2) (ak ao aj))) (fun _ _=>rfl)))) aj)) (pv 9)) aj)))))))) (aH (aY (pv 7))))))),?_⟩
 walk_at "rd";refine cD.of tp (by omega) (by decide) (by decide) fun y1 H1 l1 u1 t1 s1=>⟨by decide,fun p2 H2 f2 s2 e2=>?_⟩
 refine⟨p2,_,rfl,fW.of e2,rfl,?_⟩;generalize hL:Str.ofString "abcdefghijklmnopqrstuvwxyz" = LT;have Xk:LT.length<=sizeLine:=by rw[<- hL]; decide
 have Lq:∀i:Int,0<=i->i<26->Ck LT.cps.toList i=some (97+i.toNat):=fun i h0 h1=>by rw[<- hL]; exact letter h0 h1
 walk_at "rd";refine⟨rfl,?_⟩;refine word Xk Lq rfl (t1.same s2) (by omega) fun acc st H3 ls gs e3 t3 s3=>?_
 have ej:∀cs:List Nat,Str.join (Str.ofString "") (cs.map fun c=>tx [c])=tx cs:=fun cs=>by
  rw[show Str.ofString "" = tx [] from rfl,show(cs.map fun c=>tx [c])=(cs.map fun c=>[c]).map tx by rw[Dq]; rfl,Gq,Ln]
 refine⟨_,acc,st.map fun c=>tx [c],rfl,rfl,by rw[e3,Dq]; rfl,?_,?_⟩
 ·exact Gr ls
 rw[ej];refine⟨tx st,rfl,by rw[d7,sizeLine_eq]; omega,?_⟩
 rw[d7];refine cD.of t3 (by omega) (by omega) (by omega) fun y4 H4 l4 u4 t4 s4=>?_
 refine cD.of t4 (by omega) (by decide) (by decide) fun y5 H5 l5 u5 t5 s5=>?_
 walk_at "rd";refine⟨by decide,fun p H6 f6 s6 e6=>?_⟩
 have pa:=t5.ne f6;have x5:SX a H H5:=s1.trans ((SX.of s2).trans (s3.trans (s4.trans s5)));have Vf:H p=none:=JZ x5 pa f6;generalize decide (y5=0)=lk
 obtain⟨g,hg1,hg2⟩:∃g:List Nat->Option Nat,(∀c,lk=true->g (st.take y4.toNat++[c]++st.drop y4.toNat)=some c)/\∀b c,lk=false->g (b++[c])=some c:=by
  cases lk with
  | true=>exact⟨fun z=>z[y4.toNat]?,fun c _=>by
    show(st.take y4.toNat++[c]++st.drop y4.toNat)[y4.toNat]?=some c
    rw[Hw,HH (by rw[lH]; omega),lH,Nat.min_eq_left (by omega),Bd]; rfl,(fun _ _ h=>by cases h)⟩
  | false=>exact⟨fun z=>z.getLast?,(fun _ h=>by cases h),fun b c _=>by simp⟩
 refine⟨_,_,_,rfl,?_⟩;rw[tU];walk_at "rd";refine FK.of (n:=m) rfl (by omega) (fun i σ H'=>∃(zs:List (List Nat)) (o8 o9:Option V),σ=[some (.ref a),some (.int m),some (.str LT),some (.int y1),some (.str (tx st)),some (.int y4),some (.bl lk),some (.ref p),o8,o9]/\zs.length=i/\(∀z∈zs,MK z)/\zs.map g=(List.range i).map (fun j=>some (M6 y1 j))/\H' p=some (.lst (zs.map fun z=>V.str (tx z)))/\Tp H' a (n+20+10*i)/\SX a H H')
  ⟨[],none,none,rfl,rfl,fun z hz=>by simp at hz,rfl,e6,(t5.same s6).mono (by omega),x5.trans (SX.of s6)⟩ ?_ ?_
 ·rintro i σ H7 hi ⟨zs,o8,o9,rfl,lz,hzs,hgz,e7,t7,s7⟩;walk_at "rd";refine⟨.inl ⟨by omega,by omega⟩,by decide,?_⟩
  have m0:=uA (y1+7*(0+(i:Int))) (show(26:Int)≠0 by decide)
  have m1:=yu (y1+7*(0+(i:Int))) (show(0:Int)<26 by decide)
  refine⟨LT,_,_,rfl,rfl,Xk,Lq _ m0 m1,?_⟩;have ec:97+((y1+7*(0+(i:Int))) % 26).toNat=M6 y1 i:=by unfold M6; rw[Int.zero_add]
  rw[ec,Rt];have Xj:=XM y1 i
  have hcn:∀b:List Nat,g b=some (M6 y1 i)->(zs++[b]).map g=(List.range (i+1)).map fun j=>some (M6 y1 j):=fun b hb=>by
   rw[jK,hgz,List.range_succ,jK];simp[hb]
  have hmem:∀b:List Nat,MK b->∀z∈zs++[b],MK z:=fun b hb z hz=>by
   rcases fC.mp hz with h | h
   ·exact hzs z h
   ·rw[gF.mp h]; exact hb
  dsimp only;cases hlk:lk with
  | true=>
   rw[a_ rfl];refine⟨.inl ⟨rfl,_,cV.of e7⟩,tx st,rfl,by rw[d7,sizeLine_eq]; omega,?_⟩
   rw[J7 st l4 (by omega)]
   refine⟨_,_,rfl,rfl,by rw[d7,d7,sizeLine_eq,lH]; simp only[ju,vO]; omega,tx st,rfl,by rw[d7,sizeLine_eq]; omega,?_⟩
   rw[J8 st l4 (by omega),tO]
   refine⟨_,_,rfl,rfl,?_,?_⟩
   ·rw[d7,d7,sizeLine_eq]; simp only[dh,lH,Az,ju,vO]; omega
   rw[tO];refine⟨p,_,_,rfl,rfl,e7,by rw[cT,lz]; exact aW (by omega),zs++[_],_,_,rfl,by rw[dh,lz]; rfl,hmem _ ⟨?_,?_⟩,hcn _ (hg1 _ hlk),by rw[aA,jK]; rfl,(t7.eV pa).mono (by omega),s7.eV Vf pa⟩
   ·simp only[dh,lH,Az,ju,vO]; omega
   ·intro c hc;rcases fC.mp hc with h | h
    ·rcases fC.mp h with h | h
     ·exact gs c (DK h)
     ·rw[gF.mp h]; exact Xj
    ·exact gs c (Oi h)
  | false=>
   rw[aV (by decide)]
   refine⟨.inl ⟨rfl,_,cV.of e7⟩,rfl,?_⟩;refine word Xk Lq rfl t7 (by omega) fun XQ cs H8 lc gc e8 t8 s8=>?_
   refine⟨_,XQ,cs.map fun c=>tx [c],rfl,rfl,by rw[e8,Dq]; rfl,Gr lc,?_⟩
   rw[ej];refine⟨_,_,rfl,rfl,by rw[d7,d7,sizeLine_eq]; simp only[ju,vO]; omega,?_⟩
   rw[tO];refine⟨p,_,_,rfl,rfl,s8.get pa e7,by rw[cT,lz]; exact aW (by omega),zs++[_],_,_,rfl,by rw[dh,lz]; rfl,hmem _ ⟨?_,?_⟩,hcn _ (hg2 _ _ hlk),by rw[aA,jK]; rfl,(t8.eV pa).mono (by omega),(s7.trans s8).eV Vf pa⟩
   ·simp only[dh,ju,vO]; omega
   ·intro c hc;rcases fC.mp hc with h | h
    ·exact gc c h
    ·rw[gF.mp h]; exact Xj
 ·rintro σ H7 ⟨zs,o8,o9,rfl,lz,hzs,hgz,e7,t7,s7⟩;walk_at "rd";refine q p zs H7 Vf pa lz hzs ?_ e7 (t7.mono (by omega)) s7
  have h1:(zs.map g).Nodup:=by
   rw[hgz];exact Hs fun i j hij hj z=>XJ hij (by omega) (Option.some.inj z)
  unfold List.Nodup at h1 ⊢;rw[List.pairwise_map] at h1;exact h1.imp fun h e=>h (by rw[e])
theorem Nm.of {a:Addr} {n m:Nat} {j:Int} {H:Hp} {Q:VK} {E:XK} (ej:j=m) (hm:m<=20) (tp:Tp H a n) (hn:n<=100000000) (q:∀p (zs:List (List Nat)) H',H p=none->p≠a->zs.length=m->(∀z∈zs,MK z)->zs.Nodup->H' p=some (.lst (zs.map fun z=>V.str (tx z)))->Tp H' a (n+300)->SX a H H'->Q (.ref p) H'):RM ([.ref a,.int j]++[]) H Q E:=by
 subst ej;exact⟨a,n,m,rfl,hm,tp,hn,q⟩
def RN:Sp:=fun vs H Q _=>∃(a:Addr) (n:Nat),vs=[.ref a]/\Tp H a n/\n<=100000000/\∀p (ls:List Int) H',H p=none->p≠a->ls.length<=40->(∀y∈ls,M7 y)->H' p=some (.lst (ls.map V.int))->Tp H' a (n+300)->SX a H H'->Q (.ref p) H'
theorem wU:aR ["_law_tape_here","_law_great","_law_load_here","_law_turn"] ["_law_tape_here"] (aC uv):=(by walk_at "c")
theorem Ie (F:jh K "_law_load" "_law_load" uv f fd) (B:Bi mg) (aK:Ct P w K mg base k "_law_draw" ["_law_tape_here","_law_many"] fO) (dz:Ct P w K mg base k "_law_units" ["_law_tape_here"] mG):bD P w K mg base fY (k+1) f fd ["_law_tape_here"] RN:=by
 refine F.ok wU (by rintro vs H Q E ⟨a,n,rfl,_⟩; rfl) (fun cdv A outer s H vs Q E hr h=>?_)
 obtain⟨a,n,rfl,tp,hn,q⟩:=h;have ND:=wU.nd;refine⟨_,(aq (qL (i:=1) (j:=2) rfl ND rfl rfl (by decide) rfl rfl (ak (gk gJ (pf aK hr (ak (pv 0) (ak ao aj))) ao (bh _)) (ak (bV aj) aj)) (by rfl)) (aq (gP PassesOwn.never rfl (dR (by rfl) B.range (ak (pf aK hr (ak (pv 0) (ak ao aj))) aj)) (aF (i:=3) ND rfl (by walk_at "o")) (aH (cZ (gU (K:=K) rfl PySem.F.plainAttrs_list PySem.F.slot_list_append PySem.F.type_list_append dU (pv 2) (ak (cL (iH (pv 1)) (pf dz hr (ak (pv 0) aj)) (pf aK hr (ak (pv 0) (ak ao aj)))) aj))))) (aH (aY (pv 2))))),?_⟩
 walk_at "rd";refine cD.of tp (by omega) (by decide) (by decide) fun y1 H1 l1 u1 t1 s1=>?_
 walk_at "rd";refine⟨by decide,fun p H2 f2 s2 e2=>?_⟩
 have pa:=t1.ne f2;have Vf:H p=none:=JZ s1 pa f2;generalize decide (y1=0)=gr;refine⟨_,_,rfl,?_⟩;rw[tU];walk_at "rd";refine cD.of (t1.same s2) (by omega) (by decide) (by decide) fun y3 H3 l3 u3 t3 s3=>?_
 refine FK.of (n:=y3.toNat) (by omega) (by omega) (fun i σ H'=>∃(ls:List Int) (o3:Option V),σ=[some (.ref a),some (.bl gr),some (.ref p),o3]/\ls.length=i/\(∀y∈ls,M7 y)/\H' p=some (.lst (ls.map V.int))/\Tp H' a (n+2+4*i)/\SX a H H')
  ⟨[],none,rfl,rfl,fun z hz=>by simp at hz,s3.get pa e2,t3,s1.trans ((SX.of s2).trans s3)⟩ ?_ ?_
 ·rintro i σ H4 hi ⟨ls,o3,rfl,lz,hls,e4,t4,s4⟩;walk_at "rd"
  have fin:∀y H5,M7 y->Tp H5 a (n+2+4*(i+1))->SX a H4 H5->Ge (V.ref p) [V.int y] H5 fun _ H6=>∃(ls:List Int) (o3':Option V),[some (V.ref a),some (V.bl gr),some (V.ref p),some (V.int (0+(i:Int)))]=[some (V.ref a),some (V.bl gr),some (V.ref p),o3']/\ls.length=i+1/\(∀y∈ls,M7 y)/\H6 p=some (.lst (ls.map V.int))/\Tp H6 a (n+2+4*(i+1))/\SX a H H6:=fun y H5 hy t5 s5=>
   ⟨p,_,_,rfl,rfl,s5.get pa e4,by rw[cT,lz]; exact aW (by omega),ls++[y],_,rfl,by rw[dh,lz]; rfl,fun z hz=>by
    rcases fC.mp hz with h | h
    ·exact hls z h
    ·rw[gF.mp h]; exact hy,by rw[aA,jK]; rfl,t5.eV pa,(s4.trans s5).eV Vf pa⟩
  refine⟨.inl ⟨rfl,_,cV.of e4⟩,?_⟩;cases gr with
  | true=>
   walk_at "rd";exact vH.of t4 (by omega) fun y H5 l5 u5 t5 s5=>fin y H5 ⟨l5,u5⟩ (t5.mono (by omega)) s5
  | false=>
   walk_at "rd";exact cD.of t4 (by omega) (by decide) (by decide) fun y H5 l5 u5 t5 s5=>fin y H5 ⟨l5,by omega⟩ (t5.mono (by omega)) s5
 ·rintro σ H4 ⟨ls,o3,rfl,lz,hls,e4,t4,s4⟩;walk_at "rd";exact q p ls H4 Vf pa (by omega) hls e4 (t4.mono (by omega)) s4
theorem Ld.of {a:Addr} {n:Nat} {H:Hp} {Q:VK} {E:XK} (tp:Tp H a n) (hn:n<=100000000) (q:∀p (ls:List Int) H',H p=none->p≠a->ls.length<=40->(∀y∈ls,M7 y)->H' p=some (.lst (ls.map V.int))->Tp H' a (n+300)->SX a H H'->Q (.ref p) H'):RN ([.ref a]++[]) H Q E:=⟨a,n,rfl,tp,hn,q⟩
theorem yz (x:fu):sZ (gZ x)=true:=by
 have h:sZ (yl x.iC)=true:=by
  show bJ (x.iC.map ux)=true;exact bz.mpr fun d hd=>by obtain⟨rs,_,rfl⟩:=lF.mp hd; exact Aq rs
 unfold gZ Kw;simp[sZ,bJ,h]
theorem eU (xs:List fu):bJ (xs.map gZ)=true:=bz.mpr fun d hd=>by obtain⟨x,_,rfl⟩:=lF.mp hd; exact yz x
theorem dJ (xs:List dY):bJ (xs.map jR)=true:=bz.mpr fun d hd=>by obtain⟨x,_,rfl⟩:=lF.mp hd; exact mD x
theorem Nt (l:List Int):sZ (cY l)=true:=by show bJ (l.map PyData.int)=true; exact iM l
theorem i_ (xs:List (List Int)):bJ (xs.map cY)=true:=bz.mpr fun d hd=>by obtain⟨x,_,rfl⟩:=lF.mp hd; exact Nt x
structure Rw where
 n:Str
 c:Int
 d:Int
 a:Int
 h:Int
def Aa (r:Rw):PyData:=.tuple [.str r.n,.int r.c,.int r.d,.int r.a,.int r.h]
theorem rw_noL (r:Rw):sZ (Aa r)=true:=rfl
theorem fZ (xs:List Rw):bJ (xs.map Aa)=true:=bz.mpr fun d hd=>by obtain⟨x,_,rfl⟩:=lF.mp hd; exact rw_noL x
structure Yd where
 tot:Int
 ns:List Str
 ps:List fu
 os:List (Option Str)
 ss:List dY
 ts:List (List Int)
 pa:List (List Rw)
structure Ya where
 p:Addr
 lo:Addr
 dp:Addr
 dn:Addr
 ds:Addr
 dt:Addr
 lp:Addr
 eO:List Addr
def Ya.own (a:Ya):List Addr:=[a.p,a.lo,a.dp,a.dn,a.ds,a.dt,a.lp]++a.eO
def h_ (t:Int) (lo dp dn ds dt lp:Addr):List (Str×V):=[("total",.int t),("order",.ref lo),("posts",.ref dp),("onwards",.ref dn),("stands",.ref ds),("tallies",.ref dt),("past",.ref lp)]
section
variable (t:Int) (lo dp dn ds dt lp:Addr)
theorem BK:(h_ t lo dp dn ds dt lp).lookup ("total" : Str)=some (.int t):=by kernel_rfl
theorem lU:(h_ t lo dp dn ds dt lp).lookup ("order" : Str)=some (.ref lo):=by kernel_rfl
theorem BL:(h_ t lo dp dn ds dt lp).lookup ("posts" : Str)=some (.ref dp):=by kernel_rfl
theorem vh:(h_ t lo dp dn ds dt lp).lookup ("onwards" : Str)=some (.ref dn):=by kernel_rfl
theorem jO:(h_ t lo dp dn ds dt lp).lookup ("stands" : Str)=some (.ref ds):=by kernel_rfl
theorem oJ:(h_ t lo dp dn ds dt lp).lookup ("tallies" : Str)=some (.ref dt):=by kernel_rfl
theorem zq:(h_ t lo dp dn ds dt lp).lookup ("past" : Str)=some (.ref lp):=by kernel_rfl
end
def Ab:Option Str->V
 | none=>.non
 | some s=>.str s
def O9:Option Str->PyData
 | none=>.none
 | some s=>.str s
theorem KZ (o:Option Str):sZ (O9 o)=true:=by cases o <;> rfl
theorem O8 (os:List (Option Str)):bJ (os.map O9)=true:=bz.mpr fun d hd=>by obtain⟨x,_,rfl⟩:=lF.mp hd; exact KZ x
theorem K9 {H:Hp} (o:Option Str):At H (O9 o) (Ab o):=by cases o with
 | none=>show At _ .none .non; unfold At; rfl
 | some z=>exact At.str _
theorem Q0 {H:Hp} {o:Option Str} {v:V} (h:At H (O9 o) v):v=Ab o:=by
 cases o with
 | none=>unfold O9 At at h; exact h
 | some z=>unfold O9 At at h; exact h
theorem KQ {H:Hp}:∀{os:List (Option Str)} {vs:List V},aa H (os.map O9) vs->vs=os.map Ab
 | [],_,h=>aa.gW h
 | o::os,vs,h=>by
  obtain⟨x,r,rfl,h1,h2⟩:=aa.aM h;rw[Q0 h1,KQ h2]; rfl
def cu (H:Hp):List Addr->List (List Rw)->Prop
 | [],[]=>True
 | l::ls,r::rs=>(∃xs,H l=some (.lst xs)/\aa H (r.map Aa) xs)/\cu H ls rs
 | _,_=>False
theorem cu.length {H:Hp}:∀{ls:List Addr} {rs:List (List Rw)},cu H ls rs->ls.length=rs.length
 | [],[],_=>rfl
 | l::ls,r::rs,h=>by rw[ju,ju,cu.length h.2]
 | [],_::_,h=>h.elim
 | _::_,[],h=>h.elim
theorem cu.keep {H H':Hp} (m:fL H H'):∀{ls:List Addr} {rs:List (List Rw)},cu H ls rs->(∀b∈ls,∀o,H b=some o->H' b=some o)->cu H' ls rs
 | [],[],_,_=>trivial
 | l::ls,r::rs,h,k=>by
  obtain⟨⟨xs,e,a⟩,h2⟩:=h;exact⟨⟨xs,k l (nZ ..) _ e,aa.kp m _ _ (fZ r) a⟩,cu.keep m h2 fun b hb=>k b (n_ _ hb)⟩
 | [],_::_,h,_=>h.elim
 | _::_,[],h,_=>h.elim
theorem cu.snoc {H:Hp}:∀{ls:List Addr} {rs:List (List Rw)} {l:Addr} {r:List Rw} {xs:List V},cu H ls rs->H l=some (.lst xs)->aa H (r.map Aa) xs->cu H (ls++[l]) (rs++[r])
 | [],[],l,r,xs,_,e,a=>⟨⟨xs,e,a⟩,trivial⟩
 | l::ls,r::rs,_,_,_,h,e,a=>⟨h.1,cu.snoc h.2 e a⟩
 | [],_::_,_,_,_,h,_,_=>h.elim
 | _::_,[],_,_,_,h,_,_=>h.elim
theorem cu.all {H:Hp}:∀{ls:List Addr} {rs:List (List Rw)},cu H ls rs->∀b∈ls,∃xs,H b=some (.lst xs)
 | [],[],_,b,hb=>by simp at hb
 | l::ls,r::rs,h,b,hb=>by
  rcases d_.mp hb with e | e
  ·subst e; obtain⟨⟨xs,e,_⟩,_⟩:=h; exact⟨xs,e⟩
  ·exact cu.all h.2 b e
 | [],_::_,h,_,_=>h.elim
 | _::_,[],h,_,_=>h.elim
structure bK (C:Addr) (H:Hp) (a:Ya) (y:Yd):Prop where
 ob:∃dx,H a.p=some (.ins C dx (h_ y.tot a.lo a.dp a.dn a.ds a.dt a.lp))
 lo:H a.lo=some (.lst (y.ns.map V.str))
 dp:∃vs,H a.dp=some (.dK (zK y.ns vs))/\aa H (y.ps.map gZ) vs
 dn:H a.dn=some (.dK (zK y.ns (y.os.map Ab)))
 ds:∃vs,H a.ds=some (.dK (zK y.ns vs))/\aa H (y.ss.map jR) vs
 dt:∃vs,H a.dt=some (.dK (zK y.ns vs))/\aa H (y.ts.map cY) vs
 lp:H a.lp=some (.lst (a.eO.map V.ref))
 pa:cu H a.eO y.pa
 nd:a.own.Nodup
theorem bK.keep {C:Addr} {H H':Hp} {a:Ya} {y:Yd} (A:bK C H a y) (m:fL H H') (k:∀b∈a.own,∀o,H b=some o->H' b=some o):bK C H' a y:=by
 obtain⟨⟨dx,h1⟩,h2,⟨v3,h3,g3⟩,h4,⟨v5,h5,g5⟩,⟨v6,h6,g6⟩,h7,h8,h9⟩:=A;have kk:∀b o,b∈[a.p,a.lo,a.dp,a.dn,a.ds,a.dt,a.lp]->H b=some o->H' b=some o:=fun b o hb e=>k b (DG _ hb) o e;exact⟨⟨dx,kk _ _ (by simp) h1⟩,kk _ _ (by simp) h2,⟨v3,kk _ _ (by simp) h3,aa.kp m _ _ (eU _) g3⟩,kk _ _ (by simp) h4,⟨v5,kk _ _ (by simp) h5,aa.kp m _ _ (dJ _) g5⟩,⟨v6,kk _ _ (by simp) h6,aa.kp m _ _ (i_ _) g6⟩,kk _ _ (by simp) h7,h8.keep m fun b hb=>k b (gH _ hb),h9⟩
theorem bK.mono {C:Addr} {H H':Hp} {a:Ya} {y:Yd} (A:bK C H a y) (s:aL H H'):bK C H' a y:=A.keep s.kp fun b _ o e=>s b o e
theorem bK.al {C:Addr} {H:Hp} {a:Ya} {y:Yd} (A:bK C H a y):∀b∈a.own,∃o,H b=some o/\∀xs,o≠.tup xs:=fun b hb=>by
 obtain⟨⟨dx,h1⟩,h2,⟨v3,h3,g3⟩,h4,⟨v5,h5,g5⟩,⟨v6,h6,g6⟩,h7,h8,h9⟩:=A;rcases fC.mp hb with h | h
 ·simp only[d_,cW,or_false] at h;rcases h with rfl | rfl | rfl | rfl | rfl | rfl | rfl
  ·exact⟨_,h1,fun _ z=>by cases z⟩
  ·exact⟨_,h2,fun _ z=>by cases z⟩
  ·exact⟨_,h3,fun _ z=>by cases z⟩
  ·exact⟨_,h4,fun _ z=>by cases z⟩
  ·exact⟨_,h5,fun _ z=>by cases z⟩
  ·exact⟨_,h6,fun _ z=>by cases z⟩
  ·exact⟨_,h7,fun _ z=>by cases z⟩
 ·obtain⟨xs,e⟩:=h8.all b h;exact⟨_,e,fun _ z=>by cases z⟩
theorem bK.kp {C:Addr} {H H':Hp} {a:Ya} {y:Yd} (A:bK C H a y) (f:Fr a.own H H'):fL H H':=f.kp fun b hb xs z=>by
 obtain⟨o,e,n⟩:=A.al b hb;rw[e] at z; cases z; exact n _ rfl
structure ZY (K:PySem.W.Frag) (C:Addr):Prop where
 cl:Cv K C
 n1:cO K C "total"
 n2:cO K C "order"
 n3:cO K C "posts"
 n4:cO K C "onwards"
 n5:cO K C "stands"
 n6:cO K C "tallies"
 n7:cO K C "past"
section
variable {C:Addr} {H:Hp} {a:Ya} {y:Yd} {Q:VK}
theorem Fl.order (Z:ZY K C) (A:bK C H a y) (q:Q (.ref a.lo) H):∃p C' dx fs v,V.ref a.p=.ref p/\H p=some (.ins C' dx fs)/\Cv K C'/\cO K C' "order" /\ fs.lookup ("order" : Str)=some v/\Q v H:=by
 obtain⟨dx,h⟩:=A.ob;exact⟨_,_,_,_,_,rfl,h,Z.cl,Z.n2,lU ..,q⟩
theorem Fl.stands (Z:ZY K C) (A:bK C H a y) (q:Q (.ref a.ds) H):∃p C' dx fs v,V.ref a.p=.ref p/\H p=some (.ins C' dx fs)/\Cv K C'/\cO K C' "stands" /\ fs.lookup ("stands" : Str)=some v/\Q v H:=by
 obtain⟨dx,h⟩:=A.ob;exact⟨_,_,_,_,_,rfl,h,Z.cl,Z.n5,jO ..,q⟩
theorem Me.of {m:Str} {R:Addr->Prop} (A:bK C H a y) (h:∀t lo dp dn ds dt lp,(h_ t lo dp dn ds dt lp).lookup m=none) (q:R a.p):∃p dx fs,V.ref a.p=.ref p/\H p=some (.ins C dx fs)/\fs.lookup m=none/\R p:=by
 obtain⟨dx,e⟩:=A.ob;exact⟨_,_,_,rfl,e,h ..,q⟩
end
structure Jx (s:dY):Prop where
 r:0<=s.r
 c:s.cs.length=5
 cn:∀y∈s.cs,0<=y
 u:s.us.length=3
 ul:∀y∈s.us,y.length=3
theorem Jx.is {s:dY} (h:Jx s):qZ s:=⟨h.c,h.u,h.ul⟩
theorem Zb.n {s:dY} (h:Zb s):Jx s:=⟨h.r,h.c,h.cn,h.u,fun y hy=>by obtain⟨a,b,c,rfl,_⟩:=h.ul y hy; rfl⟩
def hnd (s:dY):Int:=s.r+s.cs.sum
def hands (ss:List dY):Int:=(ss.map hnd).sum
structure jD (y:Yd):Prop where
 nn:y.ns.Nodup
 n1:1<=y.ns.length
 n5:y.ns.length<=5
 lp:y.ps.length=y.ns.length
 lo:y.os.length=y.ns.length
 ls:y.ss.length=y.ns.length
 lt:y.ts.length=y.ns.length
 ng:∀n∈y.ns,∃cs,n=tx cs/\MK cs
 pg:∀x∈y.ps,Qq x
 og:∀(i:Nat) s,y.os[i]?=some (some s)->s∈y.ns.drop (i+1)
 sg:∀s∈y.ss,Jx s
 tg:∀t∈y.ts,t.length=3
 hs:hands y.ss<=y.tot
 lm:(y.ps.map fu.lo).sum<=y.tot
 pn:y.pa.length<=500
 pl:∀r∈y.pa,r.length<=5
abbrev T3:=Str×fu×Option Str
def Ny (t:T3):PyData:=.tuple [.str t.1,gZ t.2.1,O9 t.2.2]
theorem RD (t:T3):sZ (Ny t)=true:=by
 unfold Ny;simp[sZ,bJ,yz,KZ]
theorem Nx (ts:List T3):bJ (ts.map Ny)=true:=bz.mpr fun d hd=>by obtain⟨x,_,rfl⟩:=lF.mp hd; exact RD x
theorem JX {H:Hp} {t:T3} {v:V} (h:At H (Ny t) v):∃a vp,v=.ref a/\H a=some (.tup [.str t.1,vp,Ab t.2.2])/\At H (gZ t.2.1) vp:=by
 obtain⟨a,xs,rfl,h1,h2⟩:=bB h;obtain⟨x0,_,rfl,b0,h2⟩:=aa.aM h2;obtain⟨x1,_,rfl,b1,h2⟩:=aa.aM h2;obtain⟨x2,_,rfl,b2,h2⟩:=aa.aM h2;cases aa.gW h2;have e0:x0=.str t.1:=by unfold At at b0; exact b0
 have e2:=Q0 b2;subst e0 e2;exact⟨a,x1,rfl,h1,b1⟩
structure MJ (H:Hp) (ts:List T3) (ys km:List V):Prop where
 ly:ys.length=ts.length
 lv:km.length=ts.length
 at_:∀(i:Nat) (t:T3),ts[i]?=some t->∃a vp,ys[i]?=some (.ref a)/\km[i]?=some vp/\H a=some (.tup [.str t.1,vp,Ab t.2.2])
 ap:aa H ((ts.map (·.2.1)).map gZ) km
theorem MJ.mono {H H':Hp} {ts:List T3} {ys km:List V} (h:MJ H ts ys km) (m:fL H H'):MJ H' ts ys km:=
 ⟨h.ly,h.lv,fun i t e=>by obtain⟨a,vp,h1,h2,h3⟩:=h.at_ i t e; exact⟨a,vp,h1,h2,m _ _ h3⟩,aa.kp m _ _ (eU _) h.ap⟩
theorem C_ {H:Hp}:∀{ts:List T3} {ys:List V},aa H (ts.map Ny) ys->∃km,MJ H ts ys km
 | [],ys,h=>by
  cases aa.gW h;exact⟨[],rfl,rfl,fun i t e=>by simp at e,aa.nil⟩
 | t::ts,ys,h=>by
  obtain⟨x,r,rfl,h1,h2⟩:=aa.aM h;obtain⟨a,vp,rfl,e,ap⟩:=JX h1;obtain⟨km,g1,g2,g3,g4⟩:=C_ h2;refine⟨vp::km,by simp[g1],by simp[g2],fun i u q=>?_,aa.cons ap g4⟩
  cases i with
  | zero=>cases q; exact⟨a,vp,rfl,rfl,e⟩
  | succ i=>exact g3 i u q
def rK (ts:List T3) (km:List V) (i:Nat):St:=match ts[i]? with
 | some t=>[some (.str t.1),some (km.getD i .non),some (Ab t.2.2)]
 | none=>[none,none,none]
theorem jF (ts:List T3) (km:List V) (i:Nat):(rK ts km i).length=3:=by
 unfold rK;cases ts[i]? <;> rfl
theorem xf {K:PySem.W.Frag} {H:Hp} {ts:List T3} {ys km:List V} (h:MJ H ts ys km) {i:Nat} {x:V} (hx:ys[i]?=some x) {cap:St} {R:St->Hp->Prop} (q:R (rK ts km i++cap) H):TF K 3 (rF (fM 0) (rF (fM 1) (rF (fM 2) Jb))) x (List.replicate 3 none++cap) H R:=by
 have hi:i<ts.length:=by rw[<- h.ly]; exact(eN.mp hx).1
 have et:ts[i]?=some ts[i]:=gG hi;obtain⟨a,vp,h1,h2,h3⟩:=h.at_ i _ et;rw[hx] at h1;cases h1;refine⟨a,_,rfl,fW.of h3,rfl,?_⟩;unfold rK at q;rw[et] at q;dsimp only at q;rw[nQ,h2] at q;exact q
theorem jb {ts:List T3} {km:List V} {i:Nat} {t:T3} (e:ts[i]?=some t):rK ts km i=[some (.str t.1),some (km.getD i .non),some (Ab t.2.2)]:=by
 unfold rK; rw[e]
theorem mz {H:Hp}:∀{ns:List Str} {ys:List V},aa H (ns.map .str) ys->ys=ns.map V.str
 | [],_,h=>aa.gW h
 | n::ns,ys,h=>by
  obtain⟨x,r,rfl,h1,h2⟩:=aa.aM h;have e:x=.str n:=by unfold At at h1; exact h1
  rw[e,mz h2]; rfl
theorem tY (ns:List Str):bJ (ns.map PyData.str)=true:=bz.mpr fun d hd=>by obtain⟨z,_,rfl⟩:=lF.mp hd; rfl
def FN:Sp:=fun vs H Q _=>∃(t:Int) (p:Addr) (ys:List V) (xs:List fu),vs=[.int t,.ref p]/\H p=some (.lst ys)/\aa H (xs.map gZ) ys/\xs.length<=100/\(xs.map fu.lo).sum<=t/\∀H',aL H H'->Q .non H'
theorem kZ:aR ["total","posts"] ["total","posts"] (aC jm):=(by walk_at "c")
theorem uQ (F:jh K "check_least" "check_least" jm f fd) (B:Bi mg):bD P w K mg base fY (k+1) f fd ["total","posts"] FN:=by
 refine F.ok kZ (by rintro vs H Q E ⟨t,p,ys,xs,rfl,_⟩; rfl) (fun cdv A outer s H vs Q E hr h=>?_)
 obtain⟨t,p,ys,xs,rfl,hp,ha,hl,hs,q⟩:=h;have ND:=kZ.nd;refine⟨_,(aH (di (aZ Bo (pb (il rfl) B.sum qU (ak (cP (N':=["post"]) (js:=[]) rfl (bH (K:=K) rfl (pv 1)) qt.Q3 rfl (by decide) rfl (fun fp s' H'=>(bw bf (bw bf (pv 0) ao (fun _ _=>rfl)) ao (fun _ _=>rfl)))) aj)) (pv 0) (bh _)) (aH uH) bM)),?_⟩
 walk_at "rd";have hlen:=ha.length;rw[cT] at hlen;refine jf ((xs.map fu.lo).map .int) (fun R hR=>by walk_at "rd"; exact hR) hp (by simp; omega) (by omega) (iM _) (fun i x d H' hx hd s' R hR=>?_) fun acc zs H' f' s' e' a'=>?_
 ·rw[dw,dw] at hd;obtain⟨d',hd',ad⟩:=ha.get hx;rw[dw] at hd';cases ex:xs[i]? with
  | none=>rw[ex] at hd; cases hd
  | some x'=>
   rw[ex] at hd hd';cases hd;cases hd';obtain⟨a0,xs0,rfl,h1,h2⟩:=bB (ad.mono s');obtain⟨x0,_,rfl,b0,h2⟩:=aa.aM h2;obtain⟨x1,_,rfl,b1,h2⟩:=aa.aM h2;obtain⟨x2,_,rfl,b2,h2⟩:=aa.aM h2;obtain⟨c0,cs0,rfl,g1,g2⟩:=bB b2;have:=dq (cs:=[x'.lo,x'.hi]) g2;subst this;walk_at "rd";refine Ix.tup h1 (aU (j:=2) rfl) (Ix.tup g1 (aU (j:=0) rfl) ?_);exact hR _ _ (aL.refl _) (At.int _)
 ·have:=dq a';subst this;refine⟨acc,_,rfl,.inl e',?_⟩;rw[aV (by simpa using hs)]
  exact q H' s'
def QQ:Sp:=fun vs H Q _=>∃(o:Option Str) (p:Addr) (ns:List Str),vs=[Ab o,.ref p]/\H p=some (.lst (ns.map V.str))/\(∀z,o=some z->z∈ns)/\∀H',aL H H'->Q .non H'
theorem j_:aR ["onward","behind"] ["onward","behind"] (aC iz):=(by walk_at "c")
theorem rR (F:jh K "check_onward" "check_onward" iz f fd):bD P w K mg base fY (k+1) f fd ["onward","behind"] QQ:=by
 refine F.ok j_ (by rintro vs H Q E ⟨o,p,ns,rfl,_⟩; rfl) (fun cdv A outer s H vs Q E hr h=>?_)
 obtain⟨o,p,ns,rfl,hp,ho,q⟩:=h;have ND:=j_.nd;refine⟨_,(aH (di (PW.pt (yx (aZ sX (pv 0) gR (bh _)) (sW (aZ (HR (K:=K) rfl) (pv 0) (pv 1) (by with_unfolding_all rfl))))) (aH uH) bM)),?_⟩
 walk_at "rd";cases o with
 | none=>exact⟨trivial,by rw[aV (by simp[Ab])]; exact q H (aL.refl H)⟩
 | some z=>
  refine⟨trivial,?_⟩;rw[a_ (by simp[Ab])]
  refine⟨p,_,rfl,.inl (cV.of hp),rfl,xG ns,_,rfl,?_⟩;rw[a_ rfl,show Ab (some z)=.str z from rfl,Gx,nW (ho z rfl),aV (by decide)]
  exact q H (aL.refl H)
def J3:Sp:=fun vs H Q _=>∃(t:Int) (p p':Addr) (ys zs:List V) (ss:List dY),vs=[.int t,.ref p,.ref p']/\H p=some (.lst ys)/\H p'=some (.lst zs)/\aa H (ss.map jR) zs/\(∀s∈ss,Jx s)/\ys.length=ss.length/\ss.length<=100/\hands ss<=t/\∀H',aL H H'->Q .non H'
theorem j9:aR ["total","posts","stands"] ["total","posts","stands"] (aC iy):=(by walk_at "c")
theorem rQ (F:jh K "check_stands" "check_stands" iy f fd) (B:Bi mg) (bU:Ct P w K mg base k "hands_of" ["stand"] oZ):bD P w K mg base fY (k+1) f fd ["total","posts","stands"] J3:=by
 refine F.ok j9 (by rintro vs H Q E ⟨t,p,p',ys,zs,ss,rfl,_⟩; rfl) (fun cdv A outer s H vs Q E hr h=>?_)
 obtain⟨t,p,p',ys,zs,ss,rfl,hp,hp',ha,hS,hl,h100,hh,q⟩:=h;have ND:=j9.nd;refine⟨_,(aq (di (aZ WM (pb (cX (K:=K) rfl) B.len eZ (ak (pv 2) aj)) (pb (cX (K:=K) rfl) B.len eZ (ak (pv 1) aj)) (bh _)) (aH uH) bM) (aH (di (aZ Bo (pb (il rfl) B.sum qU (ak (cP (N':=["stand"]) (js:=[]) rfl (bH (K:=K) rfl (pv 2)) qt.Q3 rfl (by decide) rfl (fun fp s' H'=>(pf bU hr (ak (pv 0) aj)))) aj)) (pv 0) (bh _)) (aH uH) bM))),?_⟩
 have hlen:=ha.length;rw[cT] at hlen;walk_at "rd";refine⟨p',_,rfl,.inl (cV.of hp'),p,_,rfl,.inl (cV.of hp),?_⟩;walk_at "rd";rw[aV (by simp; omega)]
 refine jf ((ss.map hnd).map .int) (fun R hR=>by walk_at "rd"; exact hR) hp' (by simp; omega) (by omega) (iM _) (fun i x d H' hx hd s' R hR=>?_) fun acc us H' f' s' e' a'=>?_
 ·rw[dw,dw] at hd;obtain⟨d',hd',ad⟩:=ha.get hx;rw[dw] at hd';cases ex:ss[i]? with
  | none=>rw[ex] at hd; cases hd
  | some x'=>
   rw[ex] at hd hd';cases hd;cases hd';obtain⟨a0,xs0,rfl,h1,h2⟩:=bB (ad.mono s');obtain⟨x0,_,rfl,b0,h2⟩:=aa.aM h2;obtain⟨x1,_,rfl,b1,h2⟩:=aa.aM h2;obtain⟨x2,_,rfl,b2,h2⟩:=aa.aM h2;obtain⟨c0,cs0,rfl,g1,g2⟩:=bB b2;have:=dq (cs:=x'.cs) g2;subst this;have e1:x1=.int x'.r:=by unfold At at b1; exact b1
   subst e1;walk_at "rd";exact⟨_,_,_,_,_,_,_,rfl,rfl,h1,g1,hR _ _ (aL.refl _) (At.int _)⟩
 ·have:=dq a';subst this;refine⟨acc,_,rfl,.inl e',?_⟩;rw[aV (by unfold hands at hh; simpa using hh)]
  exact q H' s'
structure Ur (t:Int) (ts:List T3):Prop where
 n1:1<=ts.length
 n5:ts.length<=5
 nn:(ts.map (·.1)).Nodup
 ng:∀x∈ts,∃cs,x.1=tx cs/\MK cs
 og:∀(i:Nat) (x:T3) z,ts[i]?=some x->x.2.2=some z->z∈(ts.map (·.1)).drop (i+1)
 lm:((ts.map (·.2.1)).map fu.lo).sum<=t
def QR:Sp:=fun vs H Q _=>∃(t:Int) (p:Addr) (ys:List V) (ts:List T3),vs=[.int t,.ref p]/\H p=some (.lst ys)/\aa H (ts.map Ny) ys/\Ur t ts/\∀H',aL H H'->Q .non H'
theorem kY:aR ["total","posts","names","place","name","post","onward"] ["total","posts"] (aC jl):=(by walk_at "c")
theorem uP (F:jh K "check_posts" "check_posts" jl f fd) (B:Bi mg) (O:Co K mg) (qQ:Ct P w K mg base k "is_name" ["thing"] Di) (iW:Ct P w K mg base k "check_onward" ["onward","behind"] QQ) (jB:Ct P w K mg base k "check_least" ["total","posts"] FN):bD P w K mg base fY (k+1) f fd ["total","posts"] QR:=by
 refine F.ok kY (by rintro vs H Q E ⟨t,p,ys,ts,rfl,_⟩; rfl) (fun cdv A outer s H vs Q E hr h=>?_)
 obtain⟨t,p,ys,ts,rfl,hp,ha,T,q⟩:=h;have ND:=kY.nd;refine⟨_,(aq (di (uF (Bl Gj Gj ao (pb (cX (K:=K) rfl) B.len eZ (ak (pv 1) aj)) (yG O.E_))) (aH uH) bM) (aq (uI (i:=2) ND rfl (by walk_at "o") (nt:=3) (N':=["name","post","onward"]) (js:=[]) rfl (bH (K:=K) rfl (pv 1)) sS.of (fun fp s' H'=>(bT (K:=K) (n:=3) rfl rfl (aG (aF (i:=0) (by show List.Nodup (["name","post","onward"]:List Str); decide) rfl (.inl (ik rfl)) (.inr (ik rfl))) (aG (aF (i:=1) (by show List.Nodup (["name","post","onward"]:List Str); decide) rfl (.inl (ik rfl)) (.inr (ik rfl))) (aG (aF (i:=2) (by show List.Nodup (["name","post","onward"]:List Str); decide) rfl (.inl (ik rfl)) (.inr (ik rfl))) bQ))))) (fun fp s' H'=>j4) (fun fp s' H'=>(pv 0))) (aq (di (PW.pt (Bk (aZ uM (pb xO B.len eZ (ak (pt (xM rfl) B.set Mu (ak (pv 2) aj)) aj)) (pb (cX (K:=K) rfl) B.len eZ (ak (pv 2) aj)) (bh _)) (uE (uF (iH (pb (mR rfl) B.all zW (ak (cP (N':=["name"]) (js:=[]) rfl (bH (K:=K) rfl (pv 2)) qt.Q3 rfl (by decide) rfl (fun fp s' H'=>(pf qQ hr (ak (pv 0) aj)))) aj))))))) (aH uH) bM) (aq (gP PassesOwn.never rfl (Gh (K:=K) rfl B.enumerate (ak (pv 1) aj)) (bT (K:=K) (n:=2) rfl rfl (aG (aF (i:=3) ND rfl (by walk_at "o")) (aG (bT (K:=K) (n:=3) rfl rfl (aG (aF (i:=4) ND rfl (by walk_at "o")) (aG (aF (i:=5) ND rfl (by walk_at "o")) (aG (aF (i:=6) ND rfl (by walk_at "o")) bQ)))) bQ))) (aH (cZ (pf iW hr (ak (pv 6) (ak (eQ NP (pv 2) (gb (aO bA (pv 3) ao)) gf) aj)))))) (aH (cZ (pf jB hr (ak (pv 0) (ak (pJ (nt:=3) (N':=["name","post","onward"]) (js:=[]) rfl (bH (K:=K) rfl (pv 1)) sS.of (fun fp s' H'=>(bT (K:=K) (n:=3) rfl rfl (aG (aF (i:=0) (by show List.Nodup (["name","post","onward"]:List Str); decide) rfl (.inl (ik rfl)) (.inr (ik rfl))) (aG (aF (i:=1) (by show List.Nodup (["name","post","onward"]:List Str); decide) rfl (.inl (ik rfl)) (.inr (ik rfl))) (aG (aF (i:=2) (by show List.Nodup (["name","post","onward"]:List Str); decide) rfl (.inl (ik rfl)) (.inr (ik rfl))) bQ))))) (fun fp s' H'=>j4) (fun fp s' H'=>(pv 1))) aj))))))))),?_⟩
 have hlen:=ha.length;rw[cT] at hlen;have T1:=T.n1;have T5:=T.n5;simp only[FT 15];walk_at "rd";refine⟨p,ys,rfl,.inl (cV.of hp),⟨_,_,rfl,rfl,?_⟩⟩;rw[a_ (by simp; omega)]
 refine⟨_,_,rfl,rfl,?_⟩;rw[aV (by simp; omega)]
 obtain⟨km,TA⟩:=C_ ha;refine pY ((ts.map (·.1)).map .str) (rK ts km) (jF ts km) (fun R hR=>by walk_at "rd"; exact hR) hp (by simp; omega) (by omega) (tY _) ?_ ?_
 ·intro i x d H' hx hd s';refine⟨fun R hR=>xf (TA.mono s'.kp) hx hR,fun R hR=>?_⟩;have hi:i<ts.length:=by rw[<- hlen]; exact(eN.mp hx).1
  have et:ts[i]?=some ts[i]:=gG hi;rw[dw,dw,et] at hd;cases hd;rw[jb et];walk_at "rd";exact hR _ _ (aL.refl _) (At.str _)
 ·intro acc us H1 f1 s1 e1 a1;have:=mz a1;subst this;refine⟨acc,ts.map (·.1),rfl,e1,by rw[cT]; omega,fun pz H2 f2 s2 e2=>⟨pz,_,rfl,e2,?_,acc,_,rfl,.inl (cV.of (s2 _ _ e1)),?_⟩⟩
  ·have:=(mL (ts.map (·.1))).1;rw[cT] at this; omega
  have hdc:=mL (ts.map (·.1));refine⟨_,_,rfl,rfl,?_⟩
  rw[aV (by
   intro z;have z':=yt z;rw[cT] at z'
   exact hdc.2.mp (by omega) T.nn)]
  have Q_:=s2 _ _ e1;have s12:=s1.trans s2;refine jf ((ts.map fun _=>true).map .bool) (fun R hR=>by walk_at "rd"; exact hR) Q_ (by simp) (by simp; omega) (bz.mpr fun d hd=>by obtain⟨z,_,rfl⟩:=lF.mp hd; rfl) (fun i x d H' hx hd s' R hR=>?_) fun ab ub H3 f3 s3 e3 a3=>?_
  ·rw[dw,dw] at hx hd;cases et:ts[i]? with
   | none=>rw[et] at hx; cases hx
   | some t=>
    rw[et] at hx hd;cases hx;cases hd;obtain⟨cs,ec,hg⟩:=T.ng t (oh et);walk_at "rd";rw[ec];exact Name.of hg fun qj s''=>hR _ _ s'' (At.bool _)
  ·have eb:ub=(ts.map fun _=>true).map V.bl:=by
    have gen:∀(bs:List Bool) (us:List V),aa H3 (bs.map .bool) us->us=bs.map V.bl:=by
     intro bs
     induction bs with
     | nil=>intro us h; exact aa.gW h
     | cons b bs ih=>
      intro us h;obtain⟨x,r,rfl,h1,h2⟩:=aa.aM h;have e:x=.bl b:=by unfold At at h1; exact h1
      rw[e,ih r h2]; rfl
    exact gen _ _ a3
   subst eb;refine⟨ab,_,rfl,e3,?_⟩;rw[aV (by simp)]
   have Ga:=s12.trans s3;have Ue:=s3 _ _ Q_;rw[wM];walk_at "rd";refine EK.of (Ga _ _ hp) (fun i σ H'=>∃o3 o4 o5 o6,σ=[some (.int t),some (.ref p),some (.ref acc),o3,o4,o5,o6]/\aL H3 H') ⟨_,_,_,_,rfl,aL.refl _⟩ (fun i σ H' _ ⟨_,_,_,_,_,z⟩=>z _ _ (Ga _ _ hp)) ?_ ?_
   ·rintro i x σ H4 p4 hx ⟨o3,o4,o5,o6,rfl,s4⟩ f4;have hi:i<ts.length:=by rw[<- hlen]; exact(eN.mp hx).1
    have et:ts[i]?=some ts[i]:=gG hi;have Hq:=Ga.trans s4;obtain⟨a0,vp,g1,g2,g3⟩:=(TA.mono Hq.kp).at_ i _ et;rw[hx] at g1;cases g1;have s5:=aN f4 (HO.tup [V.int (i:Nat),.ref a0]);have e5:upd H4 p4 (HO.tup [V.int (i:Nat),.ref a0]) p4=some (.tup [V.int (i:Nat),.ref a0]):=aA;generalize upd H4 p4 (HO.tup [V.int (i:Nat),.ref a0])=H5 at s5 e5 ⊢;refine⟨p4,_,rfl,fW.of e5,rfl,?_⟩;walk_at "rd";refine⟨a0,_,rfl,fW.of (s5 _ _ g3),rfl,?_⟩;walk_at "rd";have eA:=s5 _ _ (s4 _ _ Ue);refine⟨acc,_,rfl,cV.of eA,fun q6 f6=>?_⟩;rw[pX (by omega),show((i:Int)+1).toNat=i+1 by omega,<- List.map_drop]
    have s6:=aN f6 (HO.lst (((ts.map (·.1)).drop (i+1)).map V.str));refine⟨_,q6,_,rfl,aA,fun z hz=>T.og i _ z et hz,fun H7 s7=>⟨_,_,_,_,rfl,s4.trans (s5.trans (s6.trans s7))⟩⟩
   ·rintro σ H4 ⟨o3,o4,o5,o6,rfl,s4⟩;walk_at "rd";have Hq:=Ga.trans s4;refine pY ((ts.map (·.2.1)).map gZ) (rK ts km) (jF ts km) (fun R hR=>by walk_at "rd"; exact hR) (Hq _ _ hp) (by simp; omega) (by omega) (eU _) ?_ ?_
    ·intro i x d H' hx hd s';have TB:=TA.mono (Hq.trans s').kp;refine⟨fun R hR=>xf TB hx hR,fun R hR=>?_⟩;have hi:i<ts.length:=by rw[<- hlen]; exact(eN.mp hx).1
     have et:ts[i]?=some ts[i]:=gG hi;obtain⟨vp,ev,av⟩:=TB.ap.nth hd;rw[jb et];walk_at "rd";rw[nQ,ev];exact hR _ _ (aL.refl _) av
    ·intro ac2 us2 H5 f5 s5 e5 a5;exact⟨t,ac2,us2,ts.map (·.2.1),rfl,e5,a5,by simp; omega,T.lm,fun H6 s6=>q H6 (Hq.trans (s5.trans s6))⟩
def Qa (t:Int):List (Str×V):=[("total",.int t)]
theorem pf1 (t:Int):gO "total" (.int t) []=Qa t:=by kernel_rfl
def LQ (t:Int) (lo:Addr):List (Str×V):=[("total",.int t),("order",.ref lo)]
theorem pf2 (t:Int) (lo:Addr):gO "order" (.ref lo) (Qa t)=LQ t lo:=by kernel_rfl
def Je (t:Int) (lo dp:Addr):List (Str×V):=[("total",.int t),("order",.ref lo),("posts",.ref dp)]
theorem pf3 (t:Int) (lo dp:Addr):gO "posts" (.ref dp) (LQ t lo)=Je t lo dp:=by kernel_rfl
def Ju (t:Int) (lo dp dn:Addr):List (Str×V):=[("total",.int t),("order",.ref lo),("posts",.ref dp),("onwards",.ref dn)]
theorem pf4 (t:Int) (lo dp dn:Addr):gO "onwards" (.ref dn) (Je t lo dp)=Ju t lo dp dn:=by kernel_rfl
def Jt (t:Int) (lo dp dn ds:Addr):List (Str×V):=[("total",.int t),("order",.ref lo),("posts",.ref dp),("onwards",.ref dn),("stands",.ref ds)]
theorem pf5 (t:Int) (lo dp dn ds:Addr):gO "stands" (.ref ds) (Ju t lo dp dn)=Jt t lo dp dn ds:=by kernel_rfl
def M3 (t:Int) (lo dp dn ds dt:Addr):List (Str×V):=[("total",.int t),("order",.ref lo),("posts",.ref dp),("onwards",.ref dn),("stands",.ref ds),("tallies",.ref dt)]
theorem pf6 (t:Int) (lo dp dn ds dt:Addr):gO "tallies" (.ref dt) (Jt t lo dp dn ds)=M3 t lo dp dn ds dt:=by kernel_rfl
def YG (t:Int) (lo dp dn ds dt lp:Addr):List (Str×V):=[("total",.int t),("order",.ref lo),("posts",.ref dp),("onwards",.ref dn),("stands",.ref ds),("tallies",.ref dt),("past",.ref lp)]
theorem pf7 (t:Int) (lo dp dn ds dt lp:Addr):gO "past" (.ref lp) (M3 t lo dp dn ds dt)=YG t lo dp dn ds dt lp:=by kernel_rfl
theorem Jd (t:Int) (lo dp dn:Addr):(Ju t lo dp dn).lookup ("order" : Str)=some (.ref lo):=by kernel_rfl
theorem Jc (t:Int) (lo dp dn ds:Addr):(Jt t lo dp dn ds).lookup ("order" : Str)=some (.ref lo):=by kernel_rfl
def lV (x:fu):dY:=⟨0,x.lo,[0,0,0,0,0],0,0,[[0,0,0],[0,0,0],[0,0,0]]⟩
def S6 (t:Int) (ts:List T3) (ss:List dY):Yd:=⟨t,ts.map (·.1),ts.map (·.2.1),ts.map (·.2.2),ss,ts.map fun _=>[0,0,0],[]⟩
def Df (C:Addr):Sp:=fun vs H Q _=>∃(y dx:Addr) (t:Int) (p:Addr) (ys:List V) (ts:List T3) (sv:V) (ss:List dY),vs=[.ref y,.int t,.ref p,sv]/\H y=some (.ins C dx [])/\H p=some (.lst ys)/\aa H (ts.map Ny) ys/\Ur t ts/\(∀x∈ts,Qq x.2.1)/\((sv=.non/\ss=ts.map fun x=>lV x.2.1)\/∃l zs,sv=.ref l/\H l=some (.lst zs)/\aa H (ss.map jR) zs)/\ss.length=ts.length/\(∀z∈ss,Jx z)/\hands ss<=t /\
 ∀a H',a.p=y->bK C H' a (S6 t ts ss)->a.eO=[]->(∀b∈a.own,b=y\/H b=none)->Fr [y] H H'->Q .non H'
theorem jd:aR ["self","total","posts","stands"] ["self","total","posts","stands"] (aC fQ):=(by walk_at "c")
theorem pL {C T:Addr} (F:Fd K "__init__" "Yard.__init__" fQ f fd T) (B:Bi mg) (Z:ZY K C) (jA:Ct P w K mg base k "check_posts" ["total","posts"] QR) (dB:Ct P w K mg base k "first_stand" ["post"] yc) (iV:Ct P w K mg base k "check_stands" ["total","posts","stands"] J3):bD P w K mg base (MN P w) (k+1) f fd ["self","total","posts","stands"] (Df C):=by
 refine F.okE jd (by rintro vs H Q E ⟨y,dx,t,p,ys,ts,sv,ss,rfl,_⟩; rfl) (fun cdv A outer s H vs Q E h00 hr h=>?_)
 obtain⟨y,dx,t,p,ys,ts,sv,ss,rfl,hy,hp,ha,T3,hps,hsv,hls,hS,hh,q⟩:=h;have ND:=jd.nd;refine⟨_,(aq (cZ (pf jA hr (ak (pv 1) (ak (pv 2) aj)))) (aq (di (aZ DR (pv 3) gR (bh _)) (aH (uI (i:=3) ND rfl (by walk_at "o") (nt:=3) (N':=["name","post","onward"]) (js:=[]) rfl (bH (K:=K) rfl (pv 2)) sS.of (fun fp s' H'=>(bT (K:=K) (n:=3) rfl rfl (aG (aF (i:=0) (by show List.Nodup (["name","post","onward"]:List Str); decide) rfl (.inl (ik rfl)) (.inr (ik rfl))) (aG (aF (i:=1) (by show List.Nodup (["name","post","onward"]:List Str); decide) rfl (.inl (ik rfl)) (.inr (ik rfl))) (aG (aF (i:=2) (by show List.Nodup (["name","post","onward"]:List Str); decide) rfl (.inl (ik rfl)) (.inr (ik rfl))) bQ))))) (fun fp s' H'=>j4) (fun fp s' H'=>(pf dB hr (ak (pv 1) aj))))) bM) (aq (cZ (pf iV hr (ak (pv 1) (ak (pv 2) (ak (pv 3) aj))))) (aq (g8 (K:=K) rfl (pv 0) (pv 1)) (aq (g8 (K:=K) rfl (pv 0) (pJ (nt:=3) (N':=["name","post","onward"]) (js:=[]) rfl (bH (K:=K) rfl (pv 2)) sS.of (fun fp s' H'=>(bT (K:=K) (n:=3) rfl rfl (aG (aF (i:=0) (by show List.Nodup (["name","post","onward"]:List Str); decide) rfl (.inl (ik rfl)) (.inr (ik rfl))) (aG (aF (i:=1) (by show List.Nodup (["name","post","onward"]:List Str); decide) rfl (.inl (ik rfl)) (.inr (ik rfl))) (aG (aF (i:=2) (by show List.Nodup (["name","post","onward"]:List Str); decide) rfl (.inl (ik rfl)) (.inr (ik rfl))) bQ))))) (fun fp s' H'=>j4) (fun fp s' H'=>(pv 0)))) (aq (g8 (K:=K) rfl (pv 0) (uK (nt:=3) (N':=["name","post","onward"]) (js:=[]) rfl (bH (K:=K) rfl (pv 2)) ql.of (fun fp s' H'=>(bT (K:=K) (n:=3) rfl rfl (aG (aF (i:=0) (by show List.Nodup (["name","post","onward"]:List Str); decide) rfl (.inl (ik rfl)) (.inr (ik rfl))) (aG (aF (i:=1) (by show List.Nodup (["name","post","onward"]:List Str); decide) rfl (.inl (ik rfl)) (.inr (ik rfl))) (aG (aF (i:=2) (by show List.Nodup (["name","post","onward"]:List Str); decide) rfl (.inl (ik rfl)) (.inr (ik rfl))) bQ))))) (fun fp s' H'=>(pv 0)) (fun fp s' H'=>(pv 1)))) (aq (g8 (K:=K) rfl (pv 0) (uK (nt:=3) (N':=["name","post","onward"]) (js:=[]) rfl (bH (K:=K) rfl (pv 2)) ql.of (fun fp s' H'=>(bT (K:=K) (n:=3) rfl rfl (aG (aF (i:=0) (by show List.Nodup (["name","post","onward"]:List Str); decide) rfl (.inl (ik rfl)) (.inr (ik rfl))) (aG (aF (i:=1) (by show List.Nodup (["name","post","onward"]:List Str); decide) rfl (.inl (ik rfl)) (.inr (ik rfl))) (aG (aF (i:=2) (by show List.Nodup (["name","post","onward"]:List Str); decide) rfl (.inl (ik rfl)) (.inr (ik rfl))) bQ))))) (fun fp s' H'=>(pv 0)) (fun fp s' H'=>(pv 2)))) (aq (g8 (K:=K) rfl (pv 0) (DQ rfl B.dict B.zip (ak (bL (K:=K) rfl (pv 0)) (ak (pv 3) aj)))) (aq (g8 (K:=K) rfl (pv 0) (uK (nt:=1) (N':=["name"]) (js:=[]) rfl (bH (K:=K) rfl (bL (K:=K) rfl (pv 0))) ql.of (fun fp s' H'=>(aF (i:=0) (by show List.Nodup (["name"]:List Str); decide) rfl (.inl (ik rfl)) (.inr (ik rfl)))) (fun fp s' H'=>(pv 0)) (fun fp s' H'=>(bj (ak ao (ak ao (ak ao aj))))))) (aH (g8 (K:=K) rfl (pv 0) (bV aj)))))))))))),?_⟩
 have hlen:=ha.length;rw[cT] at hlen;have T1:=T3.n1;have T5:=T3.n5;obtain⟨km,TA⟩:=C_ ha;simp only[Wb];walk_at "rd";refine⟨t,p,ys,ts,rfl,hp,ha,T3,fun H1 s1=>?_⟩;refine nj.of (R:=fun σ H'=>∃l zs,σ=[some (.ref y),some (.int t),some (.ref p),some (.ref l)]/\H' l=some (.lst zs)/\aa H' (ss.map jR) zs/\aL H H') ?_ ?_
 ·rintro σ H2 ⟨l,zs,rfl,e2,a2,s2⟩;walk_at "rd";have lz:=a2.length;rw[cT] at lz;refine⟨t,p,l,ys,zs,ss,rfl,s2 _ _ hp,e2,a2,hS,by omega,by omega,hh,fun H3 s3=>?_⟩
  have Wf:=s2.trans s3;refine⟨y,C,dx,[],rfl,Wf _ _ hy,Z.cl,Z.n1,by decide,?_⟩
  have py:p≠y:=fun z=>by rw[z,hy] at hp; cases hp
  have ly:l≠y:=fun z=>by rw[z,s2 _ _ hy] at e2; cases e2
  have stp:∀{G:Hp} {fs fs':List (Str×V)},G y=some (.ins C dx fs)->Fr [y] H G->Fr [y] H (upd G y (.ins C dx fs'))/\fL G (upd G y (.ins C dx fs')):=fun {G fs fs'} g fr=>⟨fr.trans (Fr.put (by simp)),fL.put fun xs z=>by rw[g] at z; cases z⟩
  have gy3:H3 y=some (.ins C dx []):=Wf _ _ hy;have r3:Fr [y] H H3:=Wf.fr _;obtain⟨r3',k3⟩:=stp (fs':=Qa t) gy3 r3;have TA3:=TA.mono (Wf.kp.trans k3);have z3':=aa.kp k3 _ _ (dJ _) (a2.mono s3);have hp3:upd H3 y (.ins C dx (Qa t)) p=some (.lst ys):=by rw[aJ py]; exact Wf _ _ hp
  have hl3:upd H3 y (.ins C dx (Qa t)) l=some (.lst zs):=by rw[aJ ly]; exact s3 _ _ e2
  have Tz:upd H3 y (.ins C dx (Qa t)) y=some (.ins C dx (Qa t)):=aA;rw[pf1];generalize upd H3 y (.ins C dx (Qa t))=K3 at r3' k3 TA3 z3' hp3 hl3 Tz ⊢;refine pY ((ts.map (·.1)).map .str) (rK ts km) (jF ts km) (fun R hR=>by walk_at "rd"; exact hR) hp3 (by simp; omega) (by omega) (tY _) ?_ ?_
  ·intro i x d H' hx hd s';refine⟨fun R hR=>xf (TA3.mono s'.kp) hx hR,fun R hR=>?_⟩;have hi:i<ts.length:=by rw[<- hlen]; exact(eN.mp hx).1
   have et:ts[i]?=some ts[i]:=gG hi;rw[dw,dw,et] at hd;cases hd;rw[jb et];walk_at "rd";exact hR _ _ (aL.refl _) (At.str _)
  intro lo us4 H4 Yz s4 elo a4;have:=mz a4;subst this;have gy4:=s4 _ _ Tz;refine⟨y,C,dx,Qa t,rfl,gy4,Z.cl,Z.n2,(show 1<1000 by decide),?_⟩
  have Gp:lo≠y:=fun z=>by rw[z,Tz] at Yz; cases Yz
  obtain⟨r4',k4⟩:=stp (fs':=LQ t lo) gy4 (r3'.trans (s4.fr _));have TA4:=TA3.mono (s4.kp.trans k4);have z4':=aa.kp k4 _ _ (dJ _) (z3'.mono s4);have hp4:upd H4 y (.ins C dx (LQ t lo)) p=some (.lst ys):=by rw[aJ py]; exact s4 _ _ hp3
  have hl4:upd H4 y (.ins C dx (LQ t lo)) l=some (.lst zs):=by rw[aJ ly]; exact s4 _ _ hl3
  have Tu:upd H4 y (.ins C dx (LQ t lo)) lo=some (.lst ((ts.map (·.1)).map V.str)):=by rw[aJ Gp]; exact elo
  have PN:upd H4 y (.ins C dx (LQ t lo)) y=some (.ins C dx (LQ t lo)):=aA
  have Vg:∀b,upd H4 y (.ins C dx (LQ t lo)) b=none->H b=none:=fun b z=>by
   cases q':H b with
   | none=>rfl
   | some o=>
    by_cases e:b=y
    ·rw[e,PN] at z; cases z
    ·rw[r4' b o q' (by simpa using e)] at z; cases z
  have aaI:H lo=none:=by
   cases q':H lo with
   | none=>rfl
   | some o=>rw[r3' lo o q' (by simpa using Gp)] at Yz; cases Yz
  rw[pf2];generalize upd H4 y (.ins C dx (LQ t lo))=K4 at r4' k4 TA4 z4' hp4 hl4 Tu PN Vg ⊢;refine tH (ts.map (·.1)) ((ts.map (·.2.1)).map gZ) (rK ts km) (jF ts km) (fun R hR=>by walk_at "rd"; exact hR) hp4 T3.nn (by simp; omega) (by simp; omega) (by omega) (eU _) ?_ ?_
  ·intro i x nm d H' hx hn hd s';have TC:=TA4.mono s'.kp;have hi:i<ts.length:=by rw[<- hlen]; exact(eN.mp hx).1
   have et:ts[i]?=some ts[i]:=gG hi;obtain⟨vp,ev,av⟩:=TC.ap.nth hd;rw[dw,et] at hn;cases hn;rw[jb et];refine⟨fun R hR=>xf TC hx (by rw[jb et]; exact hR),fun R hR=>by walk_at "rd"; exact hR,fun R hR=>?_⟩
   walk_at "rd";rw[nQ,ev];exact hR _ _ (aL.refl _) av
  intro dp v5 H5 YJ s5 edp a5 l5;have gy5:=s5 _ _ PN;refine⟨y,C,dx,LQ t lo,rfl,gy5,Z.cl,Z.n3,(show 2<1000 by decide),?_⟩
  have Qf:dp≠y:=fun z=>by rw[z,PN] at YJ; cases YJ
  obtain⟨r5',k5⟩:=stp (fs':=Je t lo dp) gy5 (r4'.trans (s5.fr _));have TA5:=TA4.mono (s5.kp.trans k5);have z5':=aa.kp k5 _ _ (dJ _) (z4'.mono s5);have a5':=aa.kp k5 _ _ (eU _) a5;have hp5:upd H5 y (.ins C dx (Je t lo dp)) p=some (.lst ys):=by rw[aJ py]; exact s5 _ _ hp4
  have hl5:upd H5 y (.ins C dx (Je t lo dp)) l=some (.lst zs):=by rw[aJ ly]; exact s5 _ _ hl4
  have Ek:upd H5 y (.ins C dx (Je t lo dp)) lo=some (.lst ((ts.map (·.1)).map V.str)):=by rw[aJ Gp]; exact s5 _ _ Tu
  have Ls:upd H5 y (.ins C dx (Je t lo dp)) dp=some (.dK (zK (ts.map (·.1)) v5)):=by rw[aJ Qf]; exact edp
  have PL:upd H5 y (.ins C dx (Je t lo dp)) y=some (.ins C dx (Je t lo dp)):=aA
  have Xu:∀b,upd H5 y (.ins C dx (Je t lo dp)) b=none->K4 b=none:=fun b z=>by
   cases q':K4 b with
   | none=>rfl
   | some o=>
    by_cases e:b=y
    ·rw[e,PL] at z; cases z
    ·rw[aJ e,s5 _ _ q'] at z; cases z
  rw[pf3];generalize upd H5 y (.ins C dx (Je t lo dp))=K5 at r5' k5 TA5 z5' a5' hp5 hl5 Ek Ls PL Xu ⊢;refine tH (ts.map (·.1)) ((ts.map (·.2.2)).map O9) (rK ts km) (jF ts km) (fun R hR=>by walk_at "rd"; exact hR) hp5 T3.nn (by simp; omega) (by simp; omega) (by omega) (O8 _) ?_ ?_
  ·intro i x nm d H' hx hn hd s';have TC:=TA5.mono s'.kp;have hi:i<ts.length:=by rw[<- hlen]; exact(eN.mp hx).1
   have et:ts[i]?=some ts[i]:=gG hi;rw[dw,et] at hn;cases hn;rw[dw,dw,et] at hd;cases hd;rw[jb et];refine⟨fun R hR=>xf TC hx (by rw[jb et]; exact hR),fun R hR=>by walk_at "rd"; exact hR,fun R hR=>?_⟩
   walk_at "rd";exact hR _ _ (aL.refl _) (K9 _)
  intro dn v6 H6 Xr s6 edn a6 l6;have:=KQ a6;subst this;have gy6:=s6 _ _ PL;refine⟨y,C,dx,Je t lo dp,rfl,gy6,Z.cl,Z.n4,(show 3<1000 by decide),?_⟩
  have Vi:dn≠y:=fun z=>by rw[z,PL] at Xr; cases Xr
  obtain⟨r6',k6⟩:=stp (fs':=Ju t lo dp dn) gy6 (r5'.trans (s6.fr _));rw[pf4];have ho6:∀b o,b≠y->K5 b=some o->upd H6 y (.ins C dx (Ju t lo dp dn)) b=some o:=fun b o e z=>by rw[aJ e]; exact s6 _ _ z
  have z6':=aa.kp k6 _ _ (dJ _) (z5'.mono s6);have a56:=aa.kp k6 _ _ (eU _) (a5'.mono s6);have Pz:upd H6 y (.ins C dx (Ju t lo dp dn)) dn=some (.dK (zK (ts.map (·.1)) ((ts.map (·.2.2)).map Ab))):=by rw[aJ Vi]; exact edn
  have Ja:upd H6 y (.ins C dx (Ju t lo dp dn)) y=some (.ins C dx (Ju t lo dp dn)):=aA
  have YK:∀b,upd H6 y (.ins C dx (Ju t lo dp dn)) b=none->K5 b=none:=fun b z=>by
   cases q':K5 b with
   | none=>rfl
   | some o=>
    by_cases e:b=y
    ·rw[e,Ja] at z; cases z
    ·rw[ho6 _ _ e q'] at z; cases z
  generalize upd H6 y (.ins C dx (Ju t lo dp dn))=K6 at r6' k6 z6' a56 Pz Ja YK ho6 ⊢;refine⟨y,C,dx,Ju t lo dp dn,.ref lo,rfl,Ja,Z.cl,Z.n2,Jd ..,lo,l,(ts.map (·.1)).map Sum.inr,zs,rfl,by rw[Dq]; exact ho6 _ _ Gp Ek,ho6 _ _ ly hl5,by simp; omega,by simp; omega,fun ds H7 fds s7 XF=>?_⟩
  have aaM:H7 ds=some (.dK (zK (ts.map (·.1)) zs)):=XF.trans (nR (fun q=>some (HO.dK q)) (Ae (ts.map fun x:Zg.T3=>x.1) zs [] [] (by simpa using T3.nn) rfl (by simp; omega)))
  refine⟨y,C,dx,Ju t lo dp dn,rfl,s7 _ _ Ja,Z.cl,Z.n5,(show 4<1000 by decide),?_⟩
  have YS:ds≠y:=fun z=>by rw[z,Ja] at fds; cases fds
  obtain⟨r7',k7⟩:=stp (fs':=Jt t lo dp dn ds) (s7 _ _ Ja) (r6'.trans (s7.fr _));rw[pf5];have Py:∀b o,b≠y->K6 b=some o->upd H7 y (.ins C dx (Jt t lo dp dn ds)) b=some o:=fun b o e z=>by rw[aJ e]; exact s7 _ _ z
  have z7':=aa.kp k7 _ _ (dJ _) (z6'.mono s7);have a57:=aa.kp k7 _ _ (eU _) (a56.mono s7);have Tw:upd H7 y (.ins C dx (Jt t lo dp dn ds)) ds=some (.dK (zK (ts.map (·.1)) zs)):=by rw[aJ YS]; exact aaM
  have Lw:upd H7 y (.ins C dx (Jt t lo dp dn ds)) y=some (.ins C dx (Jt t lo dp dn ds)):=aA
  have fH7:∀b,upd H7 y (.ins C dx (Jt t lo dp dn ds)) b=none->K6 b=none:=fun b z=>by
   cases q':K6 b with
   | none=>rfl
   | some o=>
    by_cases e:b=y
    ·rw[e,Lw] at z; cases z
    ·rw[Py _ _ e q'] at z; cases z
  generalize upd H7 y (.ins C dx (Jt t lo dp dn ds))=K7 at r7' k7 z7' a57 Tw Lw fH7 Py ⊢;refine tH (ts.map (·.1)) ((ts.map fun _=>([0,0,0]:List Int)).map cY) (fun i=>[some (((ts.map (·.1)).map V.str).getD i .non)]) (fun _=>rfl) (a:=lo) (fun R hR=>by walk_at "rd"; exact⟨y,C,dx,Jt t lo dp dn ds,.ref lo,rfl,Lw,Z.cl,Z.n2,Jc ..,hR⟩) (Py _ _ Gp (ho6 _ _ Gp Ek)) T3.nn (by simp) (by simp) (by simp; omega) (i_ _) ?_ ?_
  ·intro i x nm d H' hx hn hd s';have ex:((ts.map (·.1)).map V.str).getD i .non=x:=by rw[nQ,hx]; rfl
   rw[ex];rw[dw,hn] at hx;cases hx;have hi:i<ts.length:=by have:=(eN.mp hn).1; simpa using this
   have et:ts[i]?=some ts[i]:=gG hi;rw[dw,dw,et] at hd;cases hd;refine⟨fun R hR=>by walk_at "rd"; exact hR,fun R hR=>by walk_at "rd"; exact hR,fun R hR=>?_⟩
   walk_at "rd";exact⟨by decide,fun p H5 f5 s5 e5=>hR _ _ s5 (At.tup e5 (aa.cons (At.int _) (aa.cons (At.int _) (aa.cons (At.int _) aa.nil))))⟩
  intro dt v8 H8 T8 s8 XC a8 l8;have gy8:=s8 _ _ Lw;refine⟨y,C,dx,Jt t lo dp dn ds,rfl,gy8,Z.cl,Z.n6,(show 5<1000 by decide),?_⟩
  have dty:dt≠y:=fun z=>by rw[z,Lw] at T8; cases T8
  obtain⟨r8',k8⟩:=stp (fs':=M3 t lo dp dn ds dt) gy8 (r7'.trans (s8.fr _));rw[pf6];have Vb:∀b o,b≠y->K7 b=some o->upd H8 y (.ins C dx (M3 t lo dp dn ds dt)) b=some o:=fun b o e z=>by rw[aJ e]; exact s8 _ _ z
  have z8':=aa.kp k8 _ _ (dJ _) (z7'.mono s8);have a58:=aa.kp k8 _ _ (eU _) (a57.mono s8);have a88:=aa.kp k8 _ _ (i_ _) a8;have Tv:upd H8 y (.ins C dx (M3 t lo dp dn ds dt)) dt=some (.dK (zK (ts.map (·.1)) v8)):=by rw[aJ dty]; exact XC
  have PB:upd H8 y (.ins C dx (M3 t lo dp dn ds dt)) y=some (.ins C dx (M3 t lo dp dn ds dt)):=aA
  have fH8:∀b,upd H8 y (.ins C dx (M3 t lo dp dn ds dt)) b=none->K7 b=none:=fun b z=>by
   cases q':K7 b with
   | none=>rfl
   | some o=>
    by_cases e:b=y
    ·rw[e,PB] at z; cases z
    ·rw[Vb _ _ e q'] at z; cases z
  generalize upd H8 y (.ins C dx (M3 t lo dp dn ds dt))=K8 at r8' k8 z8' a58 a88 Tv PB fH8 Vb ⊢;refine⟨by decide,fun lp H9 Q8 s9 elp=>?_⟩
  have gy9:=s9 _ _ PB;refine⟨y,C,dx,M3 t lo dp dn ds dt,rfl,gy9,Z.cl,Z.n7,(show 6<1000 by decide),?_⟩
  have lpy:lp≠y:=fun z=>by rw[z,PB] at Q8; cases Q8
  obtain⟨r9',k9⟩:=stp (fs':=YG t lo dp dn ds dt lp) gy9 (r8'.trans (s9.fr _));rw[pf7];have ho9:∀b o,b≠y->K8 b=some o->upd H9 y (.ins C dx (YG t lo dp dn ds dt lp)) b=some o:=fun b o e z=>by rw[aJ e]; exact s9 _ _ z
  have aax:upd H9 y (.ins C dx (YG t lo dp dn ds dt lp)) lp=some (.lst []):=by rw[aJ lpy]; exact elp
  have lo8:=Vb _ _ Gp (Py _ _ Gp (ho6 _ _ Gp Ek));have dp8:=Vb _ _ Qf (Py _ _ Qf (ho6 _ _ Qf Ls));have dn8:=Vb _ _ Vi (Py _ _ Vi Pz);have ds8:=Vb _ _ YS Tw;refine q ⟨y,lo,dp,dn,ds,dt,lp,[]⟩ _ rfl ⟨⟨dx,aA⟩,ho9 _ _ Gp lo8,⟨v5,ho9 _ _ Qf dp8,aa.kp k9 _ _ (eU _) (a58.mono s9)⟩,ho9 _ _ Vi dn8,⟨zs,ho9 _ _ YS ds8,aa.kp k9 _ _ (dJ _) (z8'.mono s9)⟩,⟨v8,ho9 _ _ dty Tv,aa.kp k9 _ _ (i_ _) (a88.mono s9)⟩,aax,trivial,?_⟩ rfl ?_ r9'
  ·have ne:∀{G:Hp} {u v:Addr} {o:HO},G u=some o->G v=none->u≠v:=fun e1 e2 z=>by rw[z,e2] at e1; cases e1
   show[y,lo,dp,dn,ds,dt,lp].Nodup;have lo7:=Py _ _ Gp (ho6 _ _ Gp Ek);have dp7:=Py _ _ Qf (ho6 _ _ Qf Ls);have dn7:=Py _ _ Vi Pz;simp only[jL,d_,cW,not_or,or_false,not_false_eq_true,List.nodup_nil,and_true];exact⟨⟨Gp.symm,Qf.symm,Vi.symm,YS.symm,dty.symm,lpy.symm⟩,⟨ne Tu YJ,ne Ek Xr,ne (ho6 _ _ Gp Ek) fds,ne lo7 T8,ne lo8 Q8⟩,⟨ne Ls Xr,ne (ho6 _ _ Qf Ls) fds,ne dp7 T8,ne dp8 Q8⟩,⟨ne Pz fds,ne dn7 T8,ne dn8 Q8⟩,⟨ne Tw T8,ne ds8 Q8⟩,ne Tv Q8⟩
  ·intro b hb
   replace hb:b∈[y,lo,dp,dn,ds,dt,lp]:=hb
   simp only[d_,cW,or_false] at hb;rcases hb with rfl | rfl | rfl | rfl | rfl | rfl | rfl
   ·exact .inl rfl
   ·exact .inr aaI
   ·exact .inr (Vg _ YJ)
   ·exact .inr (Vg _ (Xu _ Xr))
   ·exact .inr (Vg _ (Xu _ (YK _ fds)))
   ·exact .inr (Vg _ (Xu _ (YK _ (fH7 _ T8))))
   ·exact .inr (Vg _ (Xu _ (YK _ (fH7 _ (fH8 _ Q8)))))
 ·intro N hN;walk_at "rd";rcases hsv with⟨rfl,rfl⟩ | ⟨l,zs,rfl,hl,az⟩
  ·refine⟨trivial,?_⟩;rw[a_ (by decide)]
   have TB:=TA.mono s1.kp;refine pY ((ts.map fun x=>lV x.2.1).map jR) (rK ts km) (jF ts km) (fun R hR=>by walk_at "rd"; exact hR) (s1 _ _ hp) (by simp; omega) (by omega) (dJ _) ?_ ?_
   ·intro i x d H' hx hd s';have TC:=TB.mono s'.kp;refine⟨fun R hR=>xf TC hx hR,fun R hR=>?_⟩;have hi:i<ts.length:=by rw[<- hlen]; exact(eN.mp hx).1
    have et:ts[i]?=some ts[i]:=gG hi;obtain⟨vp,ev,av⟩:=TC.ap.nth (d:=gZ ts[i].2.1) (by rw[dw,dw,et]; rfl)
    rw[dw,dw,et] at hd;cases hd;rw[jb et];walk_at "rd";rw[nQ,ev];exact⟨vp,_,rfl,av,fun u qj s'' au=>hR _ _ s'' au⟩
   ·intro l zs H2 f2 s2 e2 a2;exact hN _ _ ⟨l,zs,rfl,e2,a2,s1.trans s2⟩
  ·refine⟨trivial,?_⟩;rw[aV (by simp)]
   exact hN _ _ ⟨l,zs,rfl,s1 _ _ hl,az.mono s1,s1⟩
theorem Ui {x:Option V} {σ:St}:cH [0] (x::σ)=[x]:=rfl
theorem Cg {H:Hp}:∀{bs:List Bool} {us:List V},aa H (bs.map .bool) us->us=bs.map V.bl
 | [],_,h=>aa.gW h
 | b::bs,us,h=>by
  obtain⟨x,r,rfl,h1,h2⟩:=aa.aM h;have e:x=.bl b:=by unfold At at h1; exact h1
  rw[e,Cg h2]; rfl
def J6 (C:Addr):Sp:=fun vs H Q _=>∃(a:Ya) (y:Yd) (l:Addr) (ns:List Str),vs=[.ref a.p,.ref l]/\bK C H a y/\H l=some (.lst (ns.map V.str))/\ns.Nodup/\ns.length<=1000/\(∀n∈ns,n∈y.ns)/\∀H',aL H H'->Q .non H'
theorem gD:aR ["self","names"] ["self","names"] (aC d9):=(by walk_at "c")
theorem lJ {C:Addr} (F:jh K "check_names" "Yard.check_names" d9 f fd) (B:Bi mg) (Z:ZY K C):bD P w K mg base fY (k+1) f fd ["self","names"] (J6 C):=by
 refine F.ok gD (by rintro vs H Q E ⟨a,y,l,ns,rfl,_⟩; rfl) (fun cdv A outer s H vs Q E hr h=>?_)
 obtain⟨a,y,l,ns,rfl,YA,hl,nn,acd,nin,q⟩:=h;have ND:=gD.nd;refine⟨_,(aH (di (PW.pt (Bk (aZ uM (pb xO B.len eZ (ak (pt (xM rfl) B.set Mu (ak (pv 1) aj)) aj)) (pb (cX (K:=K) rfl) B.len eZ (ak (pv 1) aj)) (bh _)) (uE (uF (iH (pb (mR rfl) B.all zW (ak (cP (N':=["name","self"]) (js:=[0]) rfl (bH (K:=K) rfl (pv 1)) qt.mk1 rfl (by decide) rfl (fun fp s' H'=>(gk (Sw (K:=K) rfl) (pv 0) (bL (K:=K) rfl (pv 1)) (by with_unfolding_all rfl)))) aj))))))) (aH uH) bM)),?_⟩
 walk_at "rd";refine⟨l,ns,rfl,hl,by omega,fun pz H2 f2 s2 e2=>⟨pz,_,rfl,e2,?_,l,_,rfl,.inl (cV.of (s2 _ _ hl)),?_⟩⟩
 ·have:=(mL ns).1;omega
 have hdc:=mL ns;refine⟨_,_,rfl,rfl,?_⟩
 rw[aV (by
  intro z;have z':=yt z;rw[cT] at z'
  exact hdc.2.mp (by omega) nn)]
 refine jf ((ns.map fun _=>true).map .bool) (fun R hR=>by walk_at "rd"; exact hR) (s2 _ _ hl) (by simp) (by simp; omega) (bz.mpr fun d hd=>by obtain⟨z,_,rfl⟩:=lF.mp hd; rfl) (fun i x d H' hx hd s' R hR=>?_) fun ab ub H3 f3 s3 e3 a3=>?_
 ·rw[dw] at hx;rw[dw,dw] at hd;cases et:ns[i]? with
  | none=>rw[et] at hx; cases hx
  | some n=>
   rw[et] at hx hd;cases hx;cases hd;rw[Ui];walk_at "rd";refine Fl.order (Q:=fun v H=>Wt K false (.str n) v H R) Z (YA.mono (s2.trans s')) ?_;refine⟨a.lo,_,rfl,.inl (cV.of (YA.mono (s2.trans s')).lo),rfl,xG _,?_⟩;rw[aV (by decide),Gx,nW (nin n (oh et))]
   exact hR _ _ (aL.refl _) (At.bool _)
 ·have eb:ub=(ns.map fun _=>true).map V.bl:=Cg a3;subst eb;refine⟨ab,_,rfl,e3,?_⟩;rw[aV (by simp)]
  exact q _ (s2.trans s3)
def RK (C:Addr):Sp:=fun vs H Q _=>∃(a:Ya) (y:Yd),vs=[.ref a.p]/\bK C H a y/\jD y/\∀H',aL H H'->Q (.int (hands y.ss)) H'
theorem lg:aR ["self"] ["self"] (aC jq):=(by walk_at "c")
theorem uT {C:Addr} (F:jh K "hands" "Yard.hands" jq f fd) (B:Bi mg) (Z:ZY K C) (bU:Ct P w K mg base k "hands_of" ["stand"] oZ):bD P w K mg base fY (k+1) f fd ["self"] (RK C):=by
 refine F.ok lg (by rintro vs H Q E ⟨a,y,rfl,_⟩; rfl) (fun cdv A outer s H vs Q E hr h=>?_)
 obtain⟨a,y,rfl,YA,YO,q⟩:=h;have ND:=lg.nd;refine⟨_,(aH (aY (pb (il rfl) B.sum qU (ak (OD (cP (N':=["stand"]) (js:=[]) rfl (Ov (K:=K) rfl (bL (K:=K) rfl (pv 0))) qt.Q3 rfl (by decide) rfl (fun fp s' H'=>(pf bU hr (ak (pv 0) aj))))) aj)))),?_⟩
 obtain⟨vs,ed,av⟩:=YA.ds;have lv:=av.length;rw[cT] at lv;have l1:=YO.ls;have l5:=YO.n5;have lz:(zK y.ns vs).length=y.ns.length:=CG (by omega)
 walk_at "rd";refine Qi (y.ss.map hnd) (fun R hR=>by walk_at "rd"; exact Fl.stands Z YA hR) ed (by rw[cT,lz]; omega) (by omega) (fun i kk x m H' hx hm kp R hR=>?_) fun acc H' f' s' e'=>?_
 ·unfold zK at hx;rw[Ks] at hx;obtain⟨d',hd',ad⟩:=av.get hx.2;rw[dw] at hd' hm;cases ex:y.ss[i]? with
  | none=>rw[ex] at hd'; cases hd'
  | some x'=>
   rw[ex] at hd' hm;cases hm;cases hd';obtain⟨a0,xs0,rfl,h1,h2⟩:=bB (At.kp kp _ _ (mD _) ad);obtain⟨x0,_,rfl,b0,h2⟩:=aa.aM h2;obtain⟨x1,_,rfl,b1,h2⟩:=aa.aM h2;obtain⟨x2,_,rfl,b2,h2⟩:=aa.aM h2;obtain⟨c0,cs0,rfl,g1,g2⟩:=bB b2;have:=dq (cs:=x'.cs) g2;subst this;have e1:x1=.int x'.r:=by unfold At at b1; exact b1
   subst e1;walk_at "rd";exact⟨_,_,_,_,_,_,_,rfl,rfl,h1,g1,hR _ (aL.refl _)⟩
 ·refine⟨acc,_,rfl,.inl e',?_⟩;exact q _ s'
def QK (C:Addr) (g:Yd->List PyData):Sp:=fun vs H Q _=>∃(a:Ya) (y:Yd) (i:Nat) (n:Str) (d:PyData),vs=[.ref a.p,.str n]/\bK C H a y/\jD y/\y.ns[i]?=some n/\(g y)[i]?=some d/\∀v H',aL H H'->At H' d v->Q v H'
def gS (y:Yd):List PyData:=y.ss.map jR
theorem k_:aR ["self","name"] ["self","name"] (aC jo):=(by walk_at "c")
theorem uR {C:Addr} (F:jh K "stand" "Yard.stand" jo f fd) (Z:ZY K C) (bO:Cu P w K mg base k C "check_names" ["self","names"] (J6 C)):bD P w K mg base fY (k+1) f fd ["self","name"] (QK C gS):=by
 refine F.ok k_ (by rintro vs H Q E ⟨a,y,i,n,d,rfl,_⟩; rfl) (fun cdv A outer s H vs Q E hr h=>?_)
 obtain⟨a,y,i,n,d,rfl,YA,YO,hn,hd,q⟩:=h;have ND:=k_.nd;refine⟨_,(aq (cZ (pm bO hr (pv 0) (ak (bV (ak (pv 1) aj)) aj))) (aH (aY (bw (pN hr.units) (bL (K:=K) rfl (pv 0)) (pv 1) (fun _ _=>rfl))))),?_⟩;walk_at "rd";refine Me.of (m:="check_names") (R:=fun p=>_) YA (fun _ _ _ _ _ _ _=>rfl) ?_;refine⟨by decide,fun p H1 f1 s1 e1=>?_⟩
 refine⟨a,y,p,[n],rfl,YA.mono s1,e1,by simp,by simp,by intro m hm; rw[gF.mp hm]; exact oh hn,fun H2 s2=>?_⟩
 have YB:=YA.mono (s1.trans s2);obtain⟨us,ed,av⟩:=YB.ds;obtain⟨v,ev,aw⟩:=av.nth hd;have lv:=av.length;have l1:=YO.ls;rw[cT] at lv;obtain⟨dx,ob⟩:=YB.ob;exact⟨_,_,_,_,_,rfl,ob,Z.cl,Z.n5,jO ..,_,v,rfl,j8.z ed YO.nn hn (by omega) ev,q _ _ (s1.trans s2) aw⟩
def QM (C:Addr):Sp:=fun vs H Q _=>∃(a:Ya) (y:Yd),vs=[.ref a.p]/\bK C H a y/\jD y/\Q (.int (y.pa.length:Nat)) H
theorem lq:aR ["self"] ["self"] (aC jr):=(by walk_at "c")
theorem uU {C:Addr} (F:jh K "beats" "Yard.beats" jr f fd) (B:Bi mg) (Z:ZY K C):bD P w K mg base fY (k+1) f fd ["self"] (QM C):=by
 refine F.ok lq (by rintro vs H Q E ⟨a,y,rfl,_⟩; rfl) (fun cdv A outer s H vs Q E hr h=>?_)
 obtain⟨a,y,rfl,YA,YO,q⟩:=h;have ND:=lq.nd;refine⟨_,(aH (aY (pb (cX (K:=K) rfl) B.len eZ (ak (bL (K:=K) rfl (pv 0)) aj)))),?_⟩;walk_at "rd";obtain⟨dx,ob⟩:=YA.ob;refine⟨_,_,_,_,_,rfl,ob,Z.cl,Z.n7,zq ..,?_⟩;refine⟨_,_,rfl,.inl (cV.of YA.lp),?_⟩;rw[cT,YA.pa.length];exact q
def iD (y:Yd):List T3:=y.ns.zip (y.ps.zip y.os)
theorem qF {y:Yd} (YO:jD y):(iD y).length=y.ns.length:=by
 have:=YO.lp;have:=YO.lo;unfold iD; rw[Ds,Ds]; omega
def QL (C:Addr):Sp:=fun vs H Q _=>∃(a:Ya) (y:Yd),vs=[.ref a.p]/\bK C H a y/\jD y/\∀p us H',H p=none->aL H H'->H' p=some (.lst us)->aa H' ((iD y).map Ny) us->Q (.ref p) H'
theorem nA:aR ["self"] ["self"] (aC jW):=(by walk_at "c")
theorem vW {C:Addr} (F:jh K "rows" "Yard.rows" jW f fd) (B:Bi mg) (Z:ZY K C):bD P w K mg base fY (k+1) f fd ["self"] (QL C):=by
 refine F.ok nA (by rintro vs H Q E ⟨a,y,rfl,_⟩; rfl) (fun cdv A outer s H vs Q E hr h=>?_)
 obtain⟨a,y,rfl,YA,YO,q⟩:=h;have ND:=nA.nd;refine⟨_,(aH (aY (cP (N':=["name","self"]) (js:=[0]) rfl (bH (K:=K) rfl (bL (K:=K) rfl (pv 0))) qt.mk1 rfl (by decide) rfl (fun fp s' H'=>(bj (ak (pv 0) (ak (bw (pN hr.units) (bL (K:=K) rfl (pv 1)) (pv 0) (fun _ _=>rfl)) (ak (bw (pN hr.units) (bL (K:=K) rfl (pv 1)) (pv 0) (fun _ _=>rfl)) aj)))))))),?_⟩
 walk_at "rd";have l1:=YO.lp;have l2:=YO.lo;have l5:=YO.n5;obtain⟨dx,ob⟩:=YA.ob;refine jf ((iD y).map Ny) (fun R hR=>by walk_at "rd"; exact⟨_,_,_,_,_,rfl,ob,Z.cl,Z.n2,lU ..,hR⟩) YA.lo (by rw[cT,cT,qF YO]) (by rw[cT]; omega) (Nx _) (fun i x d H' hx hd s' R hR=>?_) fun acc us H' f' s' e' a'=>?_
 ·rw[dw] at hx;cases et:y.ns[i]? with
  | none=>rw[et] at hx; cases hx
  | some n=>
   rw[et] at hx;cases hx;rw[Ui];walk_at "rd";have YB:=YA.mono s';have hi:i<y.ns.length:=(eN.mp et).1;have ep:y.ps[i]?=some y.ps[i]:=gG (by omega)
   have eo:y.os[i]?=some y.os[i]:=gG (by omega)
   have er:(iD y)[i]?=some (n,y.ps[i],y.os[i]):=by
    unfold iD;rw[Ks,Ks];exact⟨et,ep,eo⟩
   rw[dw,er] at hd;cases hd;obtain⟨us,ed,av⟩:=YB.dp;obtain⟨v,ev,aw⟩:=av.nth (d:=gZ y.ps[i]) (by rw[dw,ep]; rfl)
   have lv:=av.length;rw[cT] at lv;obtain⟨dx',ob'⟩:=YB.ob;exact⟨_,_,_,_,_,rfl,ob',Z.cl,Z.n3,BL ..,_,v,rfl,j8.z ed YO.nn et (by omega) ev,_,_,_,_,_,rfl,ob',Z.cl,Z.n4,vh ..,_,Ab y.os[i],rfl,j8.z YB.dn YO.nn et (by rw[cT]; omega) (by rw[dw,eo]; rfl),by decide,fun p H5 f5 s5 e5=>hR _ _ s5 (At.tup e5 (aa.cons (At.str _) (aa.cons (aw.mono s5) (aa.cons (K9 _) aa.nil))))⟩
 ·exact q _ _ _ f' s' e' a'
theorem cu.nth {H:Hp}:∀{ls:List Addr} {rs:List (List Rw)} {i:Nat} {l:Addr},cu H ls rs->ls[i]?=some l->∃r xs,rs[i]?=some r/\H l=some (.lst xs)/\aa H (r.map Aa) xs
 | [],[],i,l,_,h=>by simp at h
 | l::ls,r::rs,0,_,h,e=>by cases e; obtain⟨⟨xs,e,a⟩,_⟩:=h; exact⟨r,xs,rfl,e,a⟩
 | l::ls,r::rs,i+1,_,h,e=>cu.nth (i:=i) h.2 e
 | [],_::_,_,_,h,_=>h.elim
 | _::_,[],_,_,h,_=>h.elim
theorem BV {js:List Nat} {a:Addr} {ls:List Addr} {rs:List (List Rw)} {tl te:TE} {σ:St} {H:Hp} {Q:VK} (hl:∀R:VK,R (.ref a) H->tl σ H R) (ha:H a=some (.lst (ls.map V.ref))) (hz:ls.length<=1000) (hp:cu H ls rs)
  (step:∀(l:Addr) xs H',H' l=some (.lst xs)->∀R:VK,(∀p,H' p=none->R (.ref p) (upd H' p (.lst xs)))->te (some (.ref l)::cH js σ) H' R)
  (fin:∀acc ms H',H acc=none->(∀b∈ms,H b=none)->(acc::ms).Nodup->aL H H'->H' acc=some (.lst (ms.map V.ref))->cu H' ms rs->Q (.ref acc) H'):ir js (pO K tl) te σ H Q:=by
 refine hl _ ⟨a,rfl,⟨_,cV.of ha⟩,fun acc hacc=>?_⟩;have lr:=hp.length;refine⟨fun i m ys H2=>m=ls.length-i/\i<=ls.length/\∃ms,ys=ms.map V.ref/\ms.length=i/\cu H2 ms (rs.take i)/\(∀b∈ms,H b=none)/\(acc::ms).Nodup/\aL H H2/\H2 acc=some (.lst ys),⟨_,rfl,iY _,[],rfl,rfl,trivial,fun b hb=>by simp at hb,by simp,aN hacc _,aA⟩,?_⟩
 rintro i m ys H2 ⟨rfl,hi,ms,rfl,lm,pm,fm,nm,s2,e2⟩;have ht:cV K H2 a (ls.map V.ref):=cV.of (s2 _ _ ha);by_cases hlt:i<ls.length
 ·have el:ls[i]?=some ls[i]:=gG hlt;have elr:(ls.map V.ref)[i]?=some (.ref ls[i]):=by rw[dw,el]; rfl
  refine .inr ⟨⟨_,_,ht,elr⟩,fun x H3 y=>?_⟩;obtain⟨e1,y⟩:=y;subst e1;have ex:=(y _ ht).symm.trans elr;cases ex;obtain⟨r,xs,er,exs,ax⟩:=hp.nth el;refine step _ xs _ (s2 _ _ exs) _ fun p fp=>?_;have pa:p≠acc:=fun z=>by rw[z,e2] at fp; cases fp
  have fp0:H p=none:=by
   cases q':H p with
   | none=>rfl
   | some o=>rw[s2 _ _ q'] at fp; cases fp
  have pm':p∉ms:=fun z=>by
   obtain⟨xs',e'⟩:=pm.all p z;rw[e'] at fp; cases fp
  have sp:=aN fp (HO.lst xs);have k4:fL H3 (upd (upd H3 p (.lst xs)) acc (.lst (ms.map V.ref++[.ref p]))):=sp.kp.trans (fL.putL (sp _ _ e2));refine⟨sp _ _ e2,aW (by rw[cT]; omega),ls.length-(i+1),by omega,rfl,hlt,ms++[p],by rw[jK]; rfl,by rw[dh,lm]; rfl,?_,?_,?_,?_,aA⟩
  ·rw[dI er];refine cu.snoc (xs:=xs) (pm.keep k4 fun b hb o e=>?_) (by rw[aJ pa,aA]) (aa.kp (s2.kp.trans k4) _ _ (fZ r) ax)
   rw[aJ (fun z=>by rw[z] at hb; exact(jL.mp nm).1 hb)]
   exact sp _ _ e
  ·intro b hb;rcases fC.mp hb with h | h
   ·exact fm b h
   ·rw[gF.mp h]; exact fp0
  ·have:=jL.mp nm;rw[jL,uD];refine⟨fun z=>?_,this.2,by simp,fun u hu v hv e=>?_⟩
   ·rcases fC.mp z with h | h
    ·exact this.1 h
    ·exact pa (gF.mp h).symm
   ·rw[gF.mp hv] at e; rw[e] at hu; exact pm' hu
  ·intro b o z;rw[aJ (fun e=>by rw[e,hacc] at z; cases z)]
   exact sp _ _ (s2 _ _ z)
 ·have e:i=ls.length:=by omega
  subst e;rw[lr,nY] at pm;exact .inl ⟨⟨_,ht,by rw[cT]; exact bG _⟩,fin acc ms H2 hacc fm nm s2 e2 pm⟩
def QJ (C:Addr):Sp:=fun vs H Q _=>∃(a:Ya) (y:Yd),vs=[.ref a.p]/\bK C H a y/\jD y/\∀p ms H',H p=none->(∀b∈ms,H b=none)->(p::ms).Nodup->aL H H'->H' p=some (.lst (ms.map V.ref))->cu H' ms y.pa->Q (.ref p) H'
theorem nu:aR ["self"] ["self"] (aC jV):=(by walk_at "c")
theorem vV {C:Addr} (F:jh K "told" "Yard.told" jV f fd) (B:Bi mg) (Z:ZY K C):bD P w K mg base fY (k+1) f fd ["self"] (QJ C):=by
 refine F.ok nu (by rintro vs H Q E ⟨a,y,rfl,_⟩; rfl) (fun cdv A outer s H vs Q E hr h=>?_)
 obtain⟨a,y,rfl,YA,YO,q⟩:=h;have ND:=nu.nd;refine⟨_,(aH (aY (cP (N':=["rows"]) (js:=[]) rfl (bH (K:=K) rfl (bL (K:=K) rfl (pv 0))) qt.Q3 rfl (by decide) rfl (fun fp s' H'=>(pt (xN) B.list zU (ak (pv 0) aj)))))),?_⟩
 walk_at "rd";have l1:=YA.pa.length;have l2:=YO.pn;obtain⟨dx,ob⟩:=YA.ob;refine BV (fun R hR=>by walk_at "rd"; exact⟨_,_,_,_,_,rfl,ob,Z.cl,Z.n7,zq ..,hR⟩) YA.lp (by omega) YA.pa (fun l xs H' hx R hR=>?_) fun acc ms H' f1 f2 f3 s' e' a'=>?_
 ·walk_at "rd";exact⟨_,_,rfl,hx,hR⟩
 ·exact q _ _ _ f1 f2 f3 s' e' a'
theorem sV {y:Yd} (YO:jD y):(iD y).map (·.1)=y.ns:=by
 have:=YO.lp;have:=YO.lo;exact List.map_fst_zip (by rw[Ds]; omega)
theorem Ar {y:Yd} (YO:jD y):(iD y).map (·.2)=y.ps.zip y.os:=by
 have:=YO.lp;have:=YO.lo;exact List.map_snd_zip (by rw[Ds]; omega)
theorem ym {y:Yd} (YO:jD y):(iD y).map (·.2.1)=y.ps:=by
 have:=YO.lp;have:=YO.lo;have h:=nR (List.map Prod.fst) (Ar YO);rw[Dq,List.map_fst_zip (by omega)] at h
 exact h
theorem Gd {y:Yd} (YO:jD y):(iD y).map (·.2.2)=y.os:=by
 have:=YO.lp;have:=YO.lo;have h:=nR (List.map Prod.snd) (Ar YO);rw[Dq,List.map_snd_zip (by omega)] at h
 exact h
theorem Kd {y:Yd} (YO:jD y):Ur y.tot (iD y):=by
 have l:=qF YO;refine⟨by have:=YO.n1; omega,by have:=YO.n5; omega,by rw[sV YO]; exact YO.nn,fun x hx=>?_,fun i x z hx hz=>?_,by rw[ym YO]; exact YO.lm⟩
 ·have:x.1∈y.ns:=by rw[<- sV YO]; exact List.mem_map_of_mem hx
  exact YO.ng _ this
 ·rw[sV YO];refine YO.og i z ?_;have:((iD y).map (·.2.2))[i]?=some x.2.2:=by rw[dw,hx]; rfl
  rw[Gd YO,hz] at this;exact this
theorem R_ (t:Int) (lo dp dn ds dt lp d:Addr):gO "tallies" (.ref d) (h_ t lo dp dn ds dt lp)=h_ t lo dp dn ds d lp:=by kernel_rfl
theorem Oz (t:Int) (lo dp dn ds dt lp d:Addr):gO "past" (.ref d) (h_ t lo dp dn ds dt lp)=h_ t lo dp dn ds dt d:=by kernel_rfl
def QH (C:Addr):Sp:=fun vs H Q _=>∃(a:Ya) (y:Yd),vs=[.ref a.p]/\bK C H a y/\jD y/\∀b H',bK C H' b y->(∀c∈b.own,H c=none)->aL H H'->Q (.ref b.p) H'
theorem nq:aR ["self","other"] ["self"] (aC jU):=(by walk_at "c")
theorem vU {C:Addr} (F:jh K "twin" "Yard.twin" jU f fd) (B:Bi mg) (Z:ZY K C) (qT:UT P w K mg base k C "Yard" ["self","total","posts","stands"] (Df C)) (j7:Cu P w K mg base k C "rows" ["self"] (QL C)) (j6:Cu P w K mg base k C "told" ["self"] (QJ C)):bD P w K mg base fY (k+1) f fd ["self"] (QH C):=by
 refine F.ok nq (by rintro vs H Q E ⟨a,y,rfl,_⟩; rfl) (fun cdv A outer s H vs Q E hr h=>?_)
 obtain⟨a,y,rfl,YA,YO,q⟩:=h;have ND:=nq.nd;refine⟨_,(aq (aQ (i:=1) ND rfl (by walk_at "o") (pk qT hr (ak (bL (K:=K) rfl (pv 0)) (ak (U6 j7 hr (pv 0)) (ak (cP (N':=["name","self"]) (js:=[0]) rfl (bH (K:=K) rfl (bL (K:=K) rfl (pv 0))) qt.mk1 rfl (by decide) rfl (fun fp s' H'=>(bw (pN hr.units) (bL (K:=K) rfl (pv 1)) (pv 0) (fun _ _=>rfl)))) aj))))) (aq (g8 (K:=K) rfl (pv 1) (pt Et B.dict GZ (ak (bL (K:=K) rfl (pv 0)) aj))) (aq (g8 (K:=K) rfl (pv 1) (U6 j6 hr (pv 0))) (aH (aY (pv 1)))))),?_⟩
 walk_at "rd";obtain⟨dx,ob⟩:=YA.ob;refine⟨_,_,_,_,_,rfl,ob,Z.cl,Z.n1,BK ..,?_⟩;refine Me.of (m:="rows") (R:=fun p=>_) YA (fun _ _ _ _ _ _ _=>rfl) ?_;refine⟨a,y,rfl,YA,YO,fun lr us H1 f1 s1 e1 a1=>?_⟩;have YB:=YA.mono s1;have l1:=YO.ls;have l5:=YO.n5;refine jf (y.ss.map jR) (fun R hR=>by walk_at "rd"; exact⟨_,_,_,_,_,rfl,s1 _ _ ob,Z.cl,Z.n2,lU ..,hR⟩) YB.lo (by rw[cT,cT]; omega) (by rw[cT]; omega) (dJ _) (fun i x d H' hx hd s' R hR=>?_) fun ls vs H2 f2 s2 e2 a2=>?_
 ·rw[dw] at hx;cases et:y.ns[i]? with
  | none=>rw[et] at hx; cases hx
  | some n=>
   rw[et] at hx;cases hx;rw[Ui];walk_at "rd";have YC:=YB.mono s';obtain⟨us',ed,av⟩:=YC.ds;obtain⟨v,ev,aw⟩:=av.nth hd;have lv:=av.length;rw[cT] at lv;obtain⟨dx',ob'⟩:=YC.ob;exact⟨_,_,_,_,_,rfl,ob',Z.cl,Z.n5,jO ..,_,v,rfl,j8.z ed YO.nn et (by omega) ev,hR _ _ (aL.refl _) aw⟩
 intro y2 Ac fy fdx ne;have s3:aL H2 (upd (upd H2 Ac (.own y2)) y2 (.ins C Ac [])):=(aN fdx _).trans (aN (by rw[aJ ne.symm]; exact fy) _)
 have s02:=s1.trans s2
 have Xn:H y2=none:=by
  cases q':H y2 with
  | none=>rfl
  | some o=>rw[s02 _ _ q'] at fy; cases fy
 refine⟨y2,Ac,y.tot,lr,us,iD y,.ref ls,y.ss,rfl,aA,s3 _ _ (s2 _ _ e1),(a1.mono s2).mono s3,Kd YO,fun x hx=>YO.pg _ (by rw[<- ym YO]; exact List.mem_map_of_mem hx),.inr ⟨ls,vs,rfl,s3 _ _ e2,a2.mono s3⟩,by rw[qF YO]; omega,YO.sg,YO.hs,fun b H4 eb B4 bp bo fr=>⟨rfl,?_⟩⟩
 have Z4:=s02.trans s3;generalize upd (upd H2 Ac (.own y2)) y2 (.ins C Ac [])=H3 at s3 Z4 bo fr;have Hq:aL H H4:=fun c o z=>fr c o (Z4 _ _ z) fun hc=>by rw[gF.mp hc,Xn] at z; cases z
 have emk:S6 y.tot (iD y) y.ss=⟨y.tot,y.ns,y.ps,y.os,y.ss,(iD y).map fun _=>[0,0,0],[]⟩:=by
  unfold S6;rw[sV YO,ym YO,Gd YO]
 rw[emk] at B4;obtain⟨b0,qW,qX,qp,qg,Jw,Ci,bls⟩:=b;cases eb;cases bp;have YD:=YA.mono Hq;obtain⟨ut,XC,Y0⟩:=YD.dt;obtain⟨dx4,ob4⟩:=YD.ob;refine⟨_,_,_,_,_,rfl,ob4,Z.cl,Z.n6,oJ ..,_,_,rfl,XC,fun zx H5 f5 s5 e5=>?_⟩;obtain⟨⟨Jv,c1⟩,c2,⟨v3,c3,g3⟩,c4,⟨v5,c5,g5⟩,⟨v6,c6,g6⟩,c7,c8,c9⟩:=B4
 replace c1:H4 b0=some (.ins C Jv (h_ y.tot qW qX qp qg Jw Ci)):=c1
 have Uj:[b0,qW,qX,qp,qg,Jw,Ci].Nodup:=by rw[show[b0,qW,qX,qp,qg,Jw,Ci]=[b0,qW,qX,qp,qg,Jw,Ci]++[] from rfl]; exact c9
 replace bo:∀c∈[b0,qW,qX,qp,qg,Jw,Ci],c=b0\/H3 c=none:=fun c hc=>bo c (by unfold Ya.own; rw[Ax]; exact hc)
 have Yx:∀{G:Hp},aL H G->∀c,G c=none->H c=none:=fun {G} sg c z=>by
  cases q':H c with
  | none=>rfl
  | some o=>rw[sg _ _ q'] at z; cases z
 have o0:∀c∈[b0,qW,qX,qp,qg,Jw,Ci],H c=none:=fun c hc=>(bo c hc).elim (fun e=>by rw[e]; exact Xn) (Yx Z4 c)
 have WX:∀{G:Hp} {u v:Addr} {o:HO},G u=some o->G v=none->u≠v:=fun e1 e2 z=>by rw[z,e2] at e1; cases e1
 have d2b:zx≠b0:=(WX c1 f5).symm;refine⟨_,_,_,_,rfl,s5 _ _ c1,Z.cl,Z.n6,(show 7<1000 by decide),?_⟩
 rw[R_];have Vc:∀c o,c≠b0->H5 c=some o->upd H5 b0 (.ins C Jv (h_ y.tot qW qX qp qg zx Ci)) c=some o:=fun c o n e=>by rw[aJ n]; exact e
 have k5:fL H4 (upd H5 b0 (.ins C Jv (h_ y.tot qW qX qp qg zx Ci))):=s5.kp.trans (fL.put fun xs z=>by rw[s5 _ _ c1] at z; cases z)
 have b5:upd H5 b0 (.ins C Jv (h_ y.tot qW qX qp qg zx Ci)) b0=some (.ins C Jv (h_ y.tot qW qX qp qg zx Ci)):=aA;generalize upd H5 b0 (.ins C Jv (h_ y.tot qW qX qp qg zx Ci))=K5 at Vc k5 b5 ⊢;have Z2:aL H K5:=fun c o z=>Vc _ _ (fun e=>by rw[e,Xn] at z; cases z) (s5 _ _ (Hq _ _ z))
 have YE:=YA.mono Z2;refine Me.of (m:="told") (R:=fun p=>_) YE (fun _ _ _ _ _ _ _=>rfl) ?_;refine⟨a,y,rfl,YE,YO,fun Li ms H6 f6 fm6 n6 s6 e6 p6=>?_⟩;refine⟨_,_,_,_,rfl,s6 _ _ b5,Z.cl,Z.n7,(show 7<1000 by decide),?_⟩
 rw[Oz];have Xh:∀c o,c≠b0->H6 c=some o->upd H6 b0 (.ins C Jv (h_ y.tot qW qX qp qg zx Li)) c=some o:=fun c o n e=>by rw[aJ n]; exact e
 have Xc:fL H6 (upd H6 b0 (.ins C Jv (h_ y.tot qW qX qp qg zx Li))):=fL.put fun xs z=>by rw[s6 _ _ b5] at z; cases z
 have b7:upd H6 b0 (.ins C Jv (h_ y.tot qW qX qp qg zx Li)) b0=some (.ins C Jv (h_ y.tot qW qX qp qg zx Li)):=aA;generalize upd H6 b0 (.ins C Jv (h_ y.tot qW qX qp qg zx Li))=K7 at Xh Xc b7 ⊢;have k47:fL H4 K7:=k5.trans (s6.kp.trans Xc);have Xl:∀c o,c≠b0->H4 c=some o->K7 c=some o:=fun c o n e=>Xh _ _ n (s6 _ _ (Vc _ _ n (s5 _ _ e)));have s07:aL H K7:=fun c o z=>Xl _ _ (fun e=>by rw[e,Xn] at z; cases z) (Hq _ _ z)
 have l2b:Li≠b0:=(WX b5 f6).symm;have mb:∀c∈ms,c≠b0:=fun c hc=>(WX b5 (fm6 c hc)).symm
 obtain⟨n1,n2,n3,n4,n5,n6',n7⟩:b0∉[qW,qX,qp,qg,Jw,Ci]/\qW∉[qX,qp,qg,Jw,Ci]/\qX∉[qp,qg,Jw,Ci]/\qp∉[qg,Jw,Ci]/\qg∉[Jw,Ci]/\Jw∉[Ci]/\True:=by
  simp only[jL] at Uj;exact⟨Uj.1,Uj.2.1,Uj.2.2.1,Uj.2.2.2.1,Uj.2.2.2.2.1,Uj.2.2.2.2.2.1,trivial⟩
 simp only[d_,cW,not_or,or_false] at n1 n2 n3 n4 n5 n6';have lo4:H4 qW=some (.lst (y.ns.map V.str)):=c2;refine q ⟨b0,qW,qX,qp,qg,zx,Li,ms⟩ K7 ⟨⟨Jv,b7⟩,Xl _ _ (Ne.symm n1.1) c2,⟨v3,Xl _ _ (Ne.symm n1.2.1) c3,aa.kp k47 _ _ (eU _) g3⟩,Xl _ _ (Ne.symm n1.2.2.1) c4,⟨v5,Xl _ _ (Ne.symm n1.2.2.2.1) c5,aa.kp k47 _ _ (dJ _) g5⟩,⟨ut,Xh _ _ d2b (s6 _ _ (Vc _ _ d2b e5)),aa.kp k47 _ _ (i_ _) Y0⟩,Xh _ _ l2b e6,p6.keep Xc fun c hc o e=>Xh _ _ (mb c hc) e,?_⟩ ?_ s07
 ·have W8:∀c∈[b0,qW,qX,qp,qg],∃o,H4 c=some o:=fun c hc=>by
   simp only[d_,cW,or_false] at hc;rcases hc with rfl | rfl | rfl | rfl | rfl
   ·exact⟨_,c1⟩
   ·exact⟨_,c2⟩
   ·exact⟨_,c3⟩
   ·exact⟨_,c4⟩
   ·exact⟨_,c5⟩
  have liv:∀c∈[b0,qW,qX,qp,qg,zx],∃o,K5 c=some o:=fun c hc=>by
   simp only[d_,cW,or_false] at hc;by_cases e:c=b0
   ·exact⟨_,by rw[e]; exact b5⟩
   ·by_cases e':c=zx
    ·exact⟨_,by rw[e']; exact Vc _ _ d2b e5⟩
    ·obtain⟨o,z⟩:=W8 c (by simp only[d_,cW,or_false]; rcases hc with h | h | h | h | h | h <;> simp[h] <;> exact absurd h e')
     exact⟨o,Vc _ _ e (s5 _ _ z)⟩
  show([b0,qW,qX,qp,qg,zx,Li]++ms).Nodup;rw[show[b0,qW,qX,qp,qg,zx,Li]++ms=[b0,qW,qX,qp,qg,zx]++(Li::ms) from rfl,uD];refine⟨?_,n6,fun u hu v hv e=>?_⟩
  ·have SN:∀c∈[b0,qW,qX,qp,qg],c≠zx:=fun c hc=>by obtain⟨o,z⟩:=W8 c hc; exact WX z f5
   simp only[jL,d_,cW,not_or,or_false,not_false_eq_true,List.nodup_nil,and_true];exact⟨⟨n1.1,n1.2.1,n1.2.2.1,n1.2.2.2.1,SN _ (by simp)⟩,⟨n2.1,n2.2.1,n2.2.2.1,SN _ (by simp)⟩,⟨n3.1,n3.2.1,SN _ (by simp)⟩,⟨n4.1,SN _ (by simp)⟩,SN _ (by simp)⟩
  ·obtain⟨o,z⟩:=liv u hu
   have fv:K5 v=none:=by
    rcases d_.mp hv with h | h
    ·rw[h]; exact f6
    ·exact fm6 v h
   exact WX z fv e
 ·intro c hc
  replace hc:c∈[b0,qW,qX,qp,qg,zx,Li]++ms:=hc
  rcases fC.mp hc with h | h
  ·simp only[d_,cW,or_false] at h;rcases h with rfl | rfl | rfl | rfl | rfl | rfl | rfl
   ·exact Xn
   ·exact o0 _ (by simp)
   ·exact o0 _ (by simp)
   ·exact o0 _ (by simp)
   ·exact o0 _ (by simp)
   ·exact Yx Hq _ f5
   ·exact Yx Z2 _ f6
  ·exact Yx Z2 _ (fm6 c h)
theorem u_:∀(cs:List Int) (g:Int),(bx cs g).1.sum=cs.sum-g+(bx cs g).2
 | [],g=>by simp[bx]; omega
 | c::cs,g=>by
  have:=u_ cs g;rw[bx,Ht,Ht,this];simp only;generalize (if(bx cs g).2<c then(bx cs g).2 else c)=z
  omega
theorem xu:∀(cs:List Int) (g:Int),(∀c∈cs,0<=c)->0<=g->(∀c∈(bx cs g).1,0<=c)/\0<=(bx cs g).2/\((bx cs g).2=0\/(bx cs g).1.sum=0)
 | [],g,_,hg=>⟨by simp[bx],by simpa[bx] using hg,.inr (by simp[bx])⟩
 | c::cs,g,h,hg=>by
  obtain⟨h1,h2,h3⟩:=xu cs g (fun y hy=>h y (n_ _ hy)) hg;have hc:=h c nZ;rw[bx];simp only;generalize hG:(bx cs g).2=G at *;refine⟨fun y hy=>?_,?_,?_⟩
  ·rcases d_.mp hy with z | z
   ·rw[z]; split <;> omega
   ·exact h1 y z
  ·split <;> omega
  ·rw[Ht];split <;> omega
structure Wth (x:fu) (st n:dY) (ch:Int):Prop where
 w:n.w=st.w
 s:n.s=st.s
 u:n.us=st.us
 r:0<=n.r
 c:n.cs.length=5
 cn:∀y∈n.cs,0<=y
 sm:n.r+n.cs.sum=st.r+st.cs.sum+ch
 t:n.t=if ch=0 then st.t else if 0<ch then x.u else x.d
theorem CN {x:fu} {st:dY} {ch:Int} (ha:x.a<=4) (hr:0<=st.r) (hl:st.cs.length=5) (hc:∀y∈st.cs,0<=y) (hz:0<=st.r+st.cs.sum+ch):Wth x st (gA x st ch) ch:=by
 by_cases c1:ch=0
 ·subst c1;have e:gA x st 0=st:=rfl;rw[e];exact⟨rfl,rfl,rfl,hr,hl,hc,by omega,rfl⟩
 ·by_cases c2:0<ch
  ·have e:gA x st ch={ st with cs:=st.cs.take x.a++[st.cs.getD x.a 0+ch]++st.cs.drop (x.a+1),t:=x.u }:=by unfold gA; rw[aV c1,a_ c2]
   rw[e];refine⟨rfl,rfl,rfl,hr,?_,?_,?_,?_⟩
   ·simp only[dh,lH,Az,ju,vO];omega
   ·intro y hy;rcases fC.mp hy with z | z
    ·rcases fC.mp z with z | z
     ·exact hc y (DK z)
     ·rw[gF.mp z];have hlt:x.a<st.cs.length:=by omega
      have:0<=st.cs.getD x.a 0:=by
       rw[nQ,gG hlt];exact hc _ (yr hlt)
      omega
    ·exact hc y (Oi z)
   ·show st.r+(st.cs.take x.a++[st.cs.getD x.a 0+ch]++st.cs.drop (x.a+1)).sum=_;obtain⟨y0,y1,y2,y3,y4,ey⟩:=Tc hl;rw[ey];have:x.a=0\/x.a=1\/x.a=2\/x.a=3\/x.a=4:=by omega
    rcases this with e | e | e | e | e <;> rw[e] <;> simp <;> omega
   ·show x.u=_;rw[aV c1,a_ c2]
  ·have e:gA x st ch={ st with r:=st.r-(bx st.cs (-ch)).2,cs:=(bx st.cs (-ch)).1,t:=x.d }:=by unfold gA; rw[aV c1,aV c2]
   rw[e];obtain⟨k1,k2,k3⟩:=xu st.cs (-ch) hc (by omega)
   have k4:=u_ st.cs (-ch);have k5:=Dc _ k1;refine⟨rfl,rfl,rfl,?_,?_,k1,?_,?_⟩
   ·show 0<=st.r-(bx st.cs (-ch)).2;omega
   ·show(bx st.cs (-ch)).1.length=5;rw[oH]; exact hl
   ·show st.r-(bx st.cs (-ch)).2+(bx st.cs (-ch)).1.sum=_;omega
   ·show x.d=_;rw[aV c1,aV c2]
theorem je {st:dY} (h:st.cs.length=5):jt st+(st.cs.drop 1++[0]).sum=st.r+st.cs.sum:=by
 obtain⟨a,b,c,d,e,hc⟩:=Tc h;unfold jt;rw[hc];simp;omega
theorem Kf {st:dY} (h:st.cs.length=5) (hr:0<=st.r) (hc:∀y∈st.cs,0<=y):0<=jt st:=by
 obtain⟨a,b,c,d,e,ec⟩:=Tc h;have:=hc a (by rw[ec]; exact nZ)
 unfold jt; rw[ec]; show 0<=st.r+a; omega
theorem Lg {st:dY} (hc:∀y∈st.cs,0<=y):∀y∈st.cs.drop 1++[0],0<=y:=fun y hy=>by
 rcases fC.mp hy with z | z
 ·exact hc y (Oi z)
 ·rw[gF.mp z]; exact Int.le_refl 0
structure NxN (x:fu) (st:dY) (c fr:Int):Prop where
 s:Jx (gA x (iK x st c) (qm x st c fr))
 h:hnd (gA x (iK x st c) (qm x st c fr))=hnd st+qm x st c fr
 l:qm x st c fr<=fr\/qm x st c fr<=0
theorem Le {x:fu} {st:dY} {c fr:Int} (hx:Qq x) (hs:Jx st) (hfr:0<=fr):NxN x st c fr:=by
 have hc5:=hs.c;have h0:=Dc _ hs.cn;have h1:=hs.r;have hlo:=hx.lo;have hhi:=hx.hi
 have hwb:0<=q_ x.iC x.lo x.hi (st.r+st.cs.sum) (fG x st c):=by
  unfold q_;simp only
  repeat' split <;> try omega
 have hbd:0<=st.r+st.cs.sum+qm x st c fr/\(qm x st c fr<=fr\/qm x st c fr<=0):=by
  unfold qm;rw[je hc5];split
  ·unfold tK;split <;> omega
  ·omega
 have hml:(st.cs.drop 1++[0]).length=5:=by simp[hc5]
 have hW:=CN (x:=x) (st:=iK x st c) (ch:=qm x st c fr) hx.a (Kf hc5 hs.r hs.cn) hml (Lg hs.cn) (by show 0<=jt st+(st.cs.drop 1++[0]).sum+qm x st c fr; rw[je hc5]; exact hbd.1)
 have hi:=Fj (ch:=qm x st c fr) hx.is (uY (x:=x) (come:=c) hs.is);refine⟨⟨hW.r,hi.c,hW.cn,hi.u,hi.l⟩,?_,hbd.2⟩;have:=hW.sm;have e:(iK x st c).r+(iK x st c).cs.sum=st.r+st.cs.sum:=je hc5;rw[e] at this;exact this
def x0:fu:=⟨1,0,0,0,0,1,0,0,[]⟩
def s0:dY:=⟨0,0,[],0,0,[]⟩
def lR (y:Yd):Int:=if 12<y.tot-hands y.ss then 12 else y.tot-hands y.ss
def yJ (y:Yd) (i:Nat):fu:=y.ps.getD i x0
def yK (y:Yd) (i:Nat):dY:=y.ss.getD i s0
def Sv (y:Yd) (i:Nat) (c:Int):dY:=gA (yJ y i) (iK (yJ y i) (yK y i) c) (qm (yJ y i) (yK y i) c (lR y))
def Su (y:Yd) (i:Nat):List Int:=y.ts.getD i []
def wZ (y:Yd) (i:Nat) (c:Int):Rw:=⟨y.ns.getD i "",c,fH (yJ y i) (yK y i) c,c-dF (yJ y i) (yK y i) c,qm (yJ y i) (yK y i) c (lR y)⟩
def Cm (t:List Int) (c d a:Int):List Int:=[t.getD 0 0+c,t.getD 1 0+d,t.getD 2 0+a]
def QZ (y:Yd) (i:Nat) (c:Int):Yd:={ y with ss:=y.ss.set i (Sv y i c),ts:=y.ts.set i (Cm (Su y i) c (wZ y i c).d (wZ y i c).a) }
theorem IW {ss:List dY} {i:Nat} {s n:dY} (h:ss[i]?=some s):hands (ss.set i n)=hands ss-hnd s+hnd n:=by
 induction ss generalizing i with
 | nil=>simp at h
 | cons z zs ih=>
  cases i with
  | zero=>cases h; simp only[List.set_cons_zero,hands,nU,Ht]; omega
  | succ i=>
   have:=ih (i:=i) h;simp only[List.set_cons_succ,hands,nU,Ht] at this ⊢;omega
theorem P0 {y:Yd} (YO:jD y):0<=lR y:=by
 have:=YO.hs;unfold lR;split <;> omega
theorem Ss {y:Yd} {i:Nat} {c:Int} (YO:jD y) (hi:i<y.ns.length):jD (QZ y i c):=by
 have l1:=YO.lp;have l2:=YO.ls;have l3:=YO.lt;have es:y.ss[i]?=some y.ss[i]:=gG (by omega)
 have e1:yK y i=y.ss[i]:=by unfold yK; rw[nQ,es]; rfl
 have e2:yJ y i=y.ps[i]:=by unfold yJ; rw[nQ,gG (by omega:i<y.ps.length)]; rfl
 have N:=Le (x:=yJ y i) (st:=yK y i) (c:=c) (by rw[e2]; exact YO.pg _ (yr _)) (by rw[e1]; exact YO.sg _ (yr _)) (P0 YO)
 refine { YO with ls:=by show(y.ss.set i _).length=_; rw[List.length_set]; exact l2,lt:=by show(y.ts.set i _).length=_; rw[List.length_set]; exact l3,sg:=?_,tg:=?_,hs:=?_ }
 ·intro s hs;rcases List.mem_or_eq_of_mem_set hs with h | h
  ·exact YO.sg s h
  ·rw[h]; exact N.s
 ·intro t ht;rcases List.mem_or_eq_of_mem_set ht with h | h
  ·exact YO.tg t h
  ·rw[h]; rfl
 ·show hands (y.ss.set i (Sv y i c))<=y.tot;rw[IW es];have hN:hnd (Sv y i c)=hnd (yK y i)+qm (yJ y i) (yK y i) c (lR y):=N.h;rw[hN,e1];have h1:=N.l;rw[e1] at h1;have h2:=YO.hs;have h3:lR y<=y.tot-hands y.ss:=by unfold lR; split <;> omega
  omega
theorem aa.put {H:Hp} {d:PyData} {v:V} (a:At H d v):∀{ds:List PyData} {vs:List V} {i:Nat},aa H ds vs->aa H (ds.set i d) (vs.set i v)
 | [],vs,i,h=>by cases aa.gW h; exact aa.nil
 | e::ds,vs,i,h=>by
  obtain⟨x,r,rfl,h1,h2⟩:=aa.aM h;cases i with
  | zero=>exact aa.cons a h2
  | succ i=>exact aa.cons h1 (aa.put a h2)
def V_ (C:Addr):Sp:=fun vs H Q _=>∃(a:Ya) (y:Yd) (i:Nat) (n:Str) (c:Int),vs=[.ref a.p,.str n,.int c]/\bK C H a y/\jD y/\y.ns[i]?=some n/\∀v H',bK C H' a (QZ y i c)->Fr [a.ds,a.dt] H H'->At H' (Aa (wZ y i c)) v->Q v H'
theorem iu:aR ["self","name","come","free","stand","done","away","change","all_come","all_done","all_away"] ["self","name","come"] (aC fB):=(by walk_at "c")
theorem oE {C:Addr} (F:jh K "post_beat" "Yard.post_beat" fB f fd) (B:Bi mg) (O:Co K mg) (Z:ZY K C) (dC:Cu P w K mg base k C "hands" ["self"] (RK C)) (cI:Jr P w K mg base k "beat_beats" ["post","stand","come","free"] 12 yd):bD P w K mg base fY (k+1) f fd ["self","name","come"] (V_ C):=by
 refine F.ok iu (by rintro vs H Q E ⟨a,y,i,n,c,rfl,_⟩; rfl) (fun cdv A outer s H vs Q E hr h=>?_)
 obtain⟨a,y,i,n,c,rfl,YA,YO,hn,q⟩:=h;have ND:=iu.nd;refine⟨_,(aq (aQ (i:=3) ND rfl (by walk_at "o") (pb (fj rfl) B.min lZ (ak (aO jx (bL (K:=K) rfl (pv 0)) (U6 dC hr (pv 0))) (ak (yG O.Fb) aj)))) (aq (eE (pfa cI hr (ak (bw (pN hr.units) (bL (K:=K) rfl (pv 0)) (pv 1) (fun _ _=>rfl)) (ak (bw (pN hr.units) (bL (K:=K) rfl (pv 0)) (pv 1) (fun _ _=>rfl)) (ak (pv 2) (ak (pv 3) aj))))) (bT (K:=K) (n:=4) rfl rfl (aG (aF (i:=4) ND rfl (by walk_at "o")) (aG (aF (i:=5) ND rfl (by walk_at "o")) (aG (aF (i:=6) ND rfl (by walk_at "o")) (aG (aF (i:=7) ND rfl (by walk_at "o")) bQ)))))) (aq (eE (pv 4) (uJ (bL (K:=K) rfl (pv 0)) (pv 1) (Dk hr.units))) (aq (eE (bw (pN hr.units) (bL (K:=K) rfl (pv 0)) (pv 1) (fun _ _=>rfl)) (bT (K:=K) (n:=3) rfl rfl (aG (aF (i:=8) ND rfl (by walk_at "o")) (aG (aF (i:=9) ND rfl (by walk_at "o")) (aG (aF (i:=10) ND rfl (by walk_at "o")) bQ))))) (aq (eE (bj (ak (aO bA (pv 8) (pv 2)) (ak (aO bA (pv 9) (pv 5)) (ak (aO bA (pv 10) (pv 6)) aj)))) (uJ (bL (K:=K) rfl (pv 0)) (pv 1) (Dk hr.units))) (aH (aY (bj (ak (pv 1) (ak (pv 2) (ak (pv 5) (ak (pv 6) (ak (pv 7) aj))))))))))))),?_⟩
 walk_at "rd";obtain⟨dx,ob⟩:=YA.ob;refine⟨_,_,_,_,_,rfl,ob,Z.cl,Z.n1,BK ..,?_⟩;refine Me.of (m:="hands") (R:=fun p=>_) YA (fun _ _ _ _ _ _ _=>rfl) ?_;refine⟨a,y,rfl,YA,YO,fun H1 s1=>?_⟩;have l1:=YO.lp;have l2:=YO.ls;have l3:=YO.lt;have l5:=YO.n5;have hi:i<y.ns.length:=(eN.mp hn).1;have YB:=YA.mono s1;have e1:y.ps[i]?=some (yJ y i):=by unfold yJ; rw[nQ,gG (by omega:i<y.ps.length)]; rfl
 have e2:y.ss[i]?=some (yK y i):=by unfold yK; rw[nQ,gG (by omega:i<y.ss.length)]; rfl
 have e3:y.ts[i]?=some (Su y i):=by unfold Su; rw[nQ,gG (by omega:i<y.ts.length)]; rfl
 obtain⟨km,edp,ap⟩:=YB.dp;obtain⟨U0,XF,as⟩:=YB.ds;obtain⟨vp,evp,avp⟩:=ap.nth (i:=i) (d:=gZ (yJ y i)) (by rw[dw,e1]; rfl)
 obtain⟨vs',evs,avs⟩:=as.nth (i:=i) (d:=jR (yK y i)) (by rw[dw,e2]; rfl)
 have lp:=ap.length;have ls:=as.length;rw[cT] at lp ls;have ob1:=s1 _ _ ob;refine⟨_,_,rfl,rfl,?_⟩;refine⟨_,_,_,_,_,rfl,ob1,Z.cl,Z.n3,BL ..,_,vp,rfl,j8.z edp YO.nn hn (by omega) evp,_,_,_,_,_,rfl,ob1,Z.cl,Z.n5,jO ..,_,vs',rfl,j8.z XF YO.nn hn (by omega) evs,?_⟩
 refine⟨vp,vs',yJ y i,yK y i,c,lR y,rfl,avp,avs,(YO.pg _ (oh e1)).is,(YO.sg _ (oh e2)).is,fun p u' H2 s2 au e4=>?_⟩;refine⟨p,_,rfl,fW.of e4,rfl,?_⟩;walk_at "rd";have Yp:=s2 _ _ ob1;have s12:=s1.trans s2;have nd:=YA.nd
 have nds:a.ds≠a.p/\a.dt≠a.p/\a.dt≠a.ds:=by
  unfold Ya.own at nd;have:=(uD.mp nd).1;simp only[jL,d_,cW,not_or,or_false] at this;exact⟨Ne.symm this.1.2.2.2.1,Ne.symm this.1.2.2.2.2.1,Ne.symm this.2.2.2.2.1.1⟩
 refine⟨_,_,_,_,_,rfl,Yp,Z.cl,Z.n5,jO ..,_,_,rfl,sO.z (s2 _ _ XF) YO.nn hn (by omega) (by omega),?_⟩
 obtain⟨UW,XC,at'⟩:=YA.dt;have ltt:=at'.length;rw[cT] at ltt;have k3:fL H2 (upd H2 a.ds (.dK (zK y.ns (U0.set i u')))):=fL.putD (s2 _ _ XF);have f3:Fr [a.ds] H2 (upd H2 a.ds (.dK (zK y.ns (U0.set i u')))):=Fr.put (by simp)
 have XD:upd H2 a.ds (.dK (zK y.ns (U0.set i u'))) a.ds=some (.dK (zK y.ns (U0.set i u'))):=aA;generalize upd H2 a.ds (.dK (zK y.ns (U0.set i u')))=H3 at k3 f3 XD ⊢;have ob3:=f3 _ _ Yp (by simpa using Ne.symm nds.1)
 have Ud:=f3 _ _ (s12 _ _ XC) (by simpa using nds.2.2)
 have at3:=aa.kp (s12.kp.trans k3) _ _ (i_ _) at';obtain⟨vt,evt,Y0⟩:=at3.nth (i:=i) (d:=cY (Su y i)) (by rw[dw,e3]; rfl)
 obtain⟨t0,t1,t2,et⟩:∃t0 t1 t2,Su y i=[t0,t1,t2]:=by
  have:=YO.tg _ (oh e3)
  match Su y i,this with
  | [t0,t1,t2],_=>exact⟨t0,t1,t2,rfl⟩
 rw[et] at Y0;obtain⟨b0,xs0,rfl,h1,h2⟩:=bB Y0;have:=dq (cs:=[t0,t1,t2]) h2;subst this;refine⟨_,_,_,_,_,rfl,ob3,Z.cl,Z.n6,oJ ..,_,_,rfl,j8.z Ud YO.nn hn (by omega) evt,?_⟩
 refine⟨b0,_,rfl,fW.of h1,rfl,?_⟩;walk_at "rd";refine⟨by decide,fun q4 H4 f4 s4 e5=>?_⟩
 have Xz:=s4 _ _ Ud;refine⟨_,_,_,_,_,rfl,s4 _ _ ob3,Z.cl,Z.n6,oJ ..,_,_,rfl,sO.z Xz YO.nn hn (by omega) (by omega),by decide,fun p6 H6 f6 s6 e6=>?_⟩
 have k5:fL H4 (upd H4 a.dt (.dK (zK y.ns (UW.set i (.ref q4))))):=fL.putD Xz;have f5:Fr [a.dt] H4 (upd H4 a.dt (.dK (zK y.ns (UW.set i (.ref q4))))):=Fr.put (by simp)
 have Xy:upd H4 a.dt (.dK (zK y.ns (UW.set i (.ref q4)))) a.dt=some (.dK (zK y.ns (UW.set i (.ref q4)))):=aA;generalize upd H4 a.dt (.dK (zK y.ns (UW.set i (.ref q4))))=H5 at k5 f5 Xy f6 s6;have fr:Fr [a.ds,a.dt] H H6:=(s12.fr _).trans ((f3.sub fun b hb=>.inl (by rw[gF.mp hb]; simp)).trans ((s4.fr _).trans ((f5.sub fun b hb=>.inl (by rw[gF.mp hb]; simp)).trans (s6.fr _))))
 have k26:fL H2 H6:=k3.trans (s4.kp.trans (k5.trans s6.kp));have kp:fL H H6:=s12.kp.trans k26;unfold Ya.own at nd;obtain⟨MP,SN,Yt⟩:=uD.mp nd;simp only[jL,d_,cW,not_or,or_false] at MP;obtain⟨⟨n12,n13,n14,n15,n16,n17⟩,⟨n23,n24,n25,n26,n27⟩,⟨n34,n35,n36,n37⟩,⟨n45,n46,n47⟩,⟨n56,n57⟩,n67,_⟩:=MP;have off:∀{b:Addr} {o:HO},H b=some o->b≠a.ds->b≠a.dt->H6 b=some o:=fun {b o} e h1 h2=>fr b o e (by simp[h1,h2])
 have eqr:wZ y i c=⟨n,c,fH (yJ y i) (yK y i) c,c-dF (yJ y i) (yK y i) c,qm (yJ y i) (yK y i) c (lR y)⟩:=by
  unfold wZ;rw[nQ,hn]; rfl
 obtain⟨Zu,aaN,ap0⟩:=YA.dp;refine q _ H6 ⟨⟨dx,off ob n15 n16⟩,off YA.lo n25 n26,⟨Zu,off aaN n35 n36,aa.kp kp _ _ (eU _) ap0⟩,off YA.dn n45 n46,⟨U0.set i u',?_,?_⟩,⟨UW.set i (.ref q4),s6 _ _ Xy,?_⟩,off YA.lp (Ne.symm n57) (Ne.symm n67),?_,YA.nd⟩ fr ?_
 ·exact s6 _ _ (f5 _ _ (s4 _ _ XD) (by simpa using n56))
 ·show aa H6 ((y.ss.set i (Sv y i c)).map jR) _;rw[List.map_set];exact aa.put (At.kp k26 _ _ (mD _) au) (aa.kp (s2.kp.trans k26) _ _ (dJ _) as)
 ·show aa H6 ((y.ts.set i (Cm (Su y i) c (wZ y i c).d (wZ y i c).a)).map cY) _;rw[List.map_set,eqr,et];exact aa.put (At.tup (s6 _ _ (f5 _ _ e5 (by simpa using fun z=>by rw[z,Ud] at f4; cases f4))) (cG [t0+c,t1+fH (yJ y i) (yK y i) c,t2+(c-dF (yJ y i) (yK y i) c)])) (aa.kp kp _ _ (i_ _) at')
 ·exact YA.pa.keep kp fun b hb o e=>off e (fun z=>Yt a.ds (by simp) b hb z.symm) (fun z=>Yt a.dt (by simp) b hb z.symm)
 ·rw[eqr];exact At.tup e6 (aa.cons (At.str _) (aa.cons (At.int _) (aa.cons (At.int _) (aa.cons (At.int _) (aa.cons (At.int _) aa.nil)))))
def YW (q:Str×Int):PyData:=.tuple [.str q.1,.int q.2]
def t_ (z:Yd×List Int×List Rw) (i:Nat):Yd×List Int×List Rw:=
 let c:=z.2.1.getD i 0
 (QZ z.1 i c,match z.1.os.getD i none with
  | none=>z.2.1
  | some o=>z.2.1.set (z.1.ns.idxOf o) (z.2.1.getD (z.1.ns.idxOf o) 0+(wZ z.1 i c).d),z.2.2++[wZ z.1 i c])
def iB (y:Yd) (cm:List Int):Nat->Yd×List Int×List Rw
 | 0=>(y,cm,[])
 | i+1=>t_ (iB y cm i) i
def vJ (ns:List Str) (cs:List (Str×Int)):List Int:=ns.map fun n=>(cs.lookup n).getD 0
def Rb (y:Yd) (cs:List (Str×Int)):List Rw:=(iB y (vJ y.ns cs) y.ns.length).2.2
def YZ (y:Yd) (cs:List (Str×Int)):Yd:={ (iB y (vJ y.ns cs) y.ns.length).1 with pa:=y.pa++[Rb y cs] }
theorem Ra {H:Hp} {q:Str×Int} {v:V} (h:At H (YW q) v):∃b,v=.ref b/\H b=some (.tup [.str q.1,.int q.2]):=by
 obtain⟨b,xs,rfl,h1,h2⟩:=bB h;obtain⟨x0,_,rfl,b0,h2⟩:=aa.aM h2;obtain⟨x1,_,rfl,b1,h2⟩:=aa.aM h2;cases aa.gW h2;unfold At at b0 b1;subst b0 b1;exact⟨b,rfl,h1⟩
theorem zM (ns:List Str) (cs:List (Str×Int)):(vJ ns cs).length=ns.length:=by unfold vJ; rw[cT]
theorem Mm {ns:List Str} {l:List (Str×Int)} {q:Str×Int} {j:Nat} (nd:ns.Nodup) (hj:ns[j]?=some q.1) (hq:q.1∉l.map (·.1)):vJ ns (l++[q])=(vJ ns l).set j q.2:=by
 have hjl:j<ns.length:=(eN.mp hj).1
 have hn:l.lookup q.1=none:=List.lookup_eq_none_iff.mpr fun p hp=>by
  simp only[bne_iff_ne,ne_eq];intro z;exact hq (by rw[z]; exact List.mem_map_of_mem hp)
 refine List.ext_getElem? fun k=>?_;rw[List.getElem?_set,zM];unfold vJ;rw[dw,dw];by_cases e:j=k
 ·subst e;rw[a_ rfl,a_ hjl,hj];show some (((l++[q]).lookup q.1).getD 0)=_;rw[List.lookup_append,hn];obtain⟨q1,q2⟩:=q;simp[List.lookup]
 ·rw[aV e];cases ek:ns[k]? with
  | none=>rfl
  | some n=>
   have ne:n≠q.1:=fun z=>e (by
    rw[z,<- hj] at ek
    exact((List.getElem?_inj hjl nd).mp ek.symm))
   show some (((l++[q]).lookup n).getD 0)=some ((l.lookup n).getD 0);rw[List.lookup_append]
   have:[q].lookup n=none:=List.lookup_eq_none_iff.mpr fun p hp=>by
    rw[gF.mp hp];simpa using ne
   rw[this,Option.or_none]
structure RbI (y:Yd) (cm:List Int) (i:Nat):Prop where
 n:(iB y cm i).1.ns=y.ns
 p:(iB y cm i).1.ps=y.ps
 o:(iB y cm i).1.os=y.os
 t:(iB y cm i).1.tot=y.tot
 a:(iB y cm i).1.pa=y.pa
 l:(iB y cm i).2.1.length=cm.length
 r:(iB y cm i).2.2.length=i
theorem lD (y:Yd) (cm:List Int):∀i,RbI y cm i
 | 0=>⟨rfl,rfl,rfl,rfl,rfl,rfl,rfl⟩
 | i+1=>by
  obtain⟨h1,h2,h3,h4,h5,h6,h7⟩:=lD y cm i;refine⟨h1,h2,h3,h4,h5,?_,?_⟩
  ·show(t_ (iB y cm i) i).2.1.length=_;unfold t_;dsimp only;split
   ·exact h6
   ·rw[List.length_set]; exact h6
  ·show((iB y cm i).2.2++[_]).length=_;rw[dh,h7]; rfl
theorem Gb {y:Yd} {cm:List Int} (YO:jD y):∀{i:Nat},i<=y.ns.length->jD (iB y cm i).1
 | 0,_=>YO
 | i+1,h=>Ss (Gb YO (Nat.le_of_succ_le h)) (by rw[(lD y cm i).n]; omega)
theorem Cy {H:Hp} {ns:List Str} {vs:List V} (h:aa H (ns.map fun _=>PyData.int 0) vs):vs=(vJ ns []).map V.int:=by
 have e:(ns.map fun _=>PyData.int 0)=(vJ ns []).map .int:=by unfold vJ; rw[Dq]; rfl
 rw[e] at h;exact dq h
theorem Qh (cs:List (Str×Int)):bJ (cs.map YW)=true:=bz.mpr fun d hd=>by obtain⟨x,_,rfl⟩:=lF.mp hd; rfl
theorem PQ {cs:List (Str×Int)} {i:Nat} {q:Str×Int} (nn:(cs.map (·.1)).Nodup) (h:cs[i]?=some q):q.1∉(cs.take i).map (·.1):=fun z=>by
 have hi:=(eN.mp h).1;have hq:=(eN.mp h).2;rw[<- List.take_append_drop i cs,jK,uD] at nn;refine nn.2.2 _ z q.1 ?_ rfl;rw[Hz hi,hq];exact nZ ..
def V8 (C:Addr):Sp:=fun vs H Q _=>∃(a:Ya) (y:Yd) (l:Addr) (us:List V) (cs:List (Str×Int)),vs=[.ref a.p,.ref l]/\bK C H a y/\jD y/\H l=some (.lst us)/\aa H (cs.map YW) us/\(cs.map (·.1)).Nodup/\(∀q∈cs,q.1∈y.ns)/\y.pa.length<500/\l∉a.own /\
 ∀p m xs H',H m=none->H p=none->p≠m->bK C H' { a with eO:=a.eO++[m] } (YZ y cs)->H' p=some (.lst xs)->aa H' ((Rb y cs).map Aa) xs->Fr [a.ds,a.dt,a.lp] H H'->Q (.ref p) H'
theorem nC:aR ["self","comes","coming","name","come","rows","row","onward"] ["self","comes"] (aC jX):=(by walk_at "c")
theorem vX {C:Addr} (F:jh K "beat" "Yard.beat" jX f fd) (B:Bi mg) (Z:ZY K C) (bO:Cu P w K mg base k C "check_names" ["self","names"] (J6 C)) (fJ:Cu P w K mg base k C "post_beat" ["self","name","come"] (V_ C)):bD P w K mg base fY (k+1) f fd ["self","comes"] (V8 C):=by
 refine F.ok nC (by rintro vs H Q E ⟨a,y,l,us,cs,rfl,_⟩; rfl) (fun cdv A outer s H vs Q E hr h=>?_)
 obtain⟨a,y,l,us,cs,rfl,YA,YO,hl,au,nn,nin,pn,lo',q⟩:=h;have ND:=nC.nd;refine⟨_,(aq (cZ (pm bO hr (pv 0) (ak (pJ (nt:=2) (N':=["name","come"]) (js:=[]) rfl (bH (K:=K) rfl (pv 1)) sS.of (fun fp s' H'=>(bT (K:=K) (n:=2) rfl rfl (aG (aF (i:=0) (by show List.Nodup (["name","come"]:List Str); decide) rfl (.inl (ik rfl)) (.inr (ik rfl))) (aG (aF (i:=1) (by show List.Nodup (["name","come"]:List Str); decide) rfl (.inl (ik rfl)) (.inr (ik rfl))) bQ)))) (fun fp s' H'=>j4) (fun fp s' H'=>(pv 0))) aj))) (aq (Ku (i:=2) ND rfl (by walk_at "o") (nt:=1) (N':=["name"]) (js:=[]) rfl (bH (K:=K) rfl (bL (K:=K) rfl (pv 0))) ql.of (fun fp s' H'=>(aF (i:=0) (by show List.Nodup (["name"]:List Str); decide) rfl (.inl (ik rfl)) (.inr (ik rfl)))) (fun fp s' H'=>(pv 0)) (fun fp s' H'=>ao)) (aq (gP PassesOwn.never rfl (bH (K:=K) rfl (pv 1)) (bT (K:=K) (n:=2) rfl rfl (aG (aF (i:=3) ND rfl (by walk_at "o")) (aG (aF (i:=4) ND rfl (by walk_at "o")) bQ))) (aH (eE (pv 4) (uJ (pv 2) (pv 3) (Dk hr.units))))) (aq (aQ (i:=5) ND rfl (by walk_at "o") (bV aj)) (aq (gP PassesOwn.never rfl (bH (K:=K) rfl (bL (K:=K) rfl (pv 0))) (aF (i:=3) ND rfl (by walk_at "o")) (aq (aQ (i:=6) ND rfl (by walk_at "o") (pm fJ hr (pv 0) (ak (pv 3) (ak (bw (pN hr.units) (pv 2) (pv 3) (fun _ _=>rfl)) aj)))) (aq (aQ (i:=7) ND rfl (by walk_at "o") (bw (pN hr.units) (bL (K:=K) rfl (pv 0)) (pv 3) (fun _ _=>rfl))) (aq (di (aZ sX (pv 7) gR (bh _)) (aH (Oo (Nat.lt_of_le_of_lt (Nat.add_le_add_left (by decide:1<=64) _) hr.units) (pv 2) (pv 7) (bw bf (pv 6) ao (fun _ _=>rfl)) Tq (by intros; rfl))) bM) (aH (cZ (gU (K:=K) rfl PySem.F.plainAttrs_list PySem.F.slot_list_append PySem.F.type_list_append dU (pv 5) (ak (pv 6) aj)))))))) (aq (cZ (gU (K:=K) rfl PySem.F.plainAttrs_list PySem.F.slot_list_append PySem.F.type_list_append dU (bL (K:=K) rfl (pv 0)) (ak (pv 5) aj))) (aH (aY (pt (xN) B.list zU (ak (pv 5) aj)))))))))),?_⟩
 walk_at "rd";have lu:=au.length;rw[cT] at lu;have l5:=YO.n5
 have hcs:cs.length<=5:=by
  have:(cs.map (·.1)).length<=y.ns.length:=List.Nodup.length_le_of_subset nn fun z hz=>by
   obtain⟨q',hq',rfl⟩:=lF.mp hz;exact nin q' hq'
  rw[cT] at this;omega
 refine Me.of (m:="check_names") (R:=fun p=>_) YA (fun _ _ _ _ _ _ _=>rfl) ?_;refine pY ((cs.map (·.1)).map .str) (fun i=>[some (.str (cs.getD i ("",0)).1),some (.int (cs.getD i ("",0)).2)]) (fun _=>rfl) (fun R hR=>by walk_at "rd"; exact hR) hl (by simp; omega) (by omega) (tY _) ?_ ?_
 ·intro i x d H' hx hd s';have hi:i<cs.length:=by rw[<- lu]; exact(eN.mp hx).1
  have et:cs[i]?=some cs[i]:=gG hi;obtain⟨d',hd',ad⟩:=(au.mono s').get hx;rw[dw,et] at hd';cases hd';obtain⟨b,rfl,eb⟩:=Ra ad;rw[dw,dw,et] at hd;cases hd;rw[nQ,et];refine⟨fun R hR=>⟨b,_,rfl,fW.of eb,rfl,?_⟩,fun R hR=>?_⟩
  ·exact hR
  ·walk_at "rd";exact hR _ _ (aL.refl _) (At.str _)
 intro acc us1 H1 f1 s1 e1 a1;have:=mz a1;subst this;refine⟨a,y,acc,cs.map (·.1),rfl,YA.mono s1,e1,nn,by rw[cT]; omega,fun n hn=>by obtain⟨q',hq',rfl⟩:=lF.mp hn; exact nin q' hq',fun H2 s2=>?_⟩
 have s12:=s1.trans s2;have YB:=YA.mono s12;obtain⟨dx,ob⟩:=YA.ob;have Yp:=s12 _ _ ob;refine tH y.ns (y.ns.map fun _=>PyData.int 0) (fun i=>[some ((y.ns.map V.str).getD i .non)]) (fun _=>rfl) (a:=a.lo) (fun R hR=>by walk_at "rd"; exact⟨_,_,_,_,_,rfl,Yp,Z.cl,Z.n2,lU ..,hR⟩) YB.lo YO.nn (by simp) (by simp) (by simp; omega) (bz.mpr fun d hd=>by obtain⟨z,_,rfl⟩:=lF.mp hd; rfl) ?_ ?_
 ·intro i x nm d H' hx hn hd s';have ex:(y.ns.map V.str).getD i .non=x:=by rw[nQ,hx]; rfl
  rw[ex];rw[dw,hn] at hx;cases hx;rw[dw,hn] at hd;cases hd;refine⟨fun R hR=>by walk_at "rd"; exact hR,fun R hR=>by walk_at "rd"; exact hR,fun R hR=>?_⟩
  walk_at "rd";exact hR _ _ (aL.refl _) (At.int _)
 intro dc vz H3 fdc s3 edc az lz;have:=Cy az;subst this;have Ga:=s12.trans s3;rw[oX];walk_at "rd"
 have Ve:H dc=none:=by
  cases q':H dc with
  | none=>rfl
  | some o=>rw[s12 _ _ q'] at fdc; cases fdc
 have ldc:l≠dc:=fun z=>by rw[<- z,hl] at Ve; cases Ve
 refine LK.of (Ga _ _ hl) (fun i σ H'=>∃o3 o4,σ=[some (.ref a.p),some (.ref l),some (.ref dc),o3,o4,none,none,none]/\H' dc=some (.dK (zK y.ns ((vJ y.ns (cs.take i)).map V.int)))/\Fr [dc] H3 H') ⟨_,_,rfl,edc,Fr.refl _ _⟩ (fun i σ H' _ ⟨_,_,_,_,fr⟩=>fr _ _ (Ga _ _ hl) (by simpa using ldc)) ?_ ?_
 ·rintro i x σ H4 hx ⟨o3,o4,rfl,e4,Lz⟩;have hi:i<cs.length:=by rw[<- lu]; exact(eN.mp hx).1
  have et:cs[i]?=some cs[i]:=gG hi;have k4:fL H3 H4:=Lz.kp fun b hb xs z=>by rw[gF.mp hb,edc] at z; cases z
  have au4:=aa.kp (Ga.kp.trans k4) _ _ (Qh _) au;obtain⟨d',hd',ad⟩:=au4.get hx;rw[dw,et] at hd';cases hd';obtain⟨b,rfl,eb⟩:=Ra ad;refine⟨b,_,rfl,fW.of eb,rfl,?_⟩;walk_at "rd";obtain⟨j,hj⟩:=List.getElem?_of_mem (nin _ (oh et));refine⟨dc,_,rfl,sO.z e4 YO.nn hj (by rw[cT,zM]) (by omega),_,_,rfl,?_,Lz.trans (Fr.put (by simp))⟩
  rw[aA,dI et,Mm YO.nn hj (PQ nn et),List.map_set]
 rintro σ H4 ⟨o3,o4,rfl,e4,Lz⟩;rw[lu,nY] at e4;have lcm:(vJ y.ns cs).length=y.ns.length:=zM ..;have eR:Rb y cs=(iB y (vJ y.ns cs) y.ns.length).2.2:=rfl;have eY:YZ y cs={ (iB y (vJ y.ns cs) y.ns.length).1 with pa:=y.pa++[Rb y cs] }:=rfl
 generalize vJ y.ns cs=cm at e4 lcm eR eY;walk_at "rd";refine⟨by decide,fun m H5 fm s5 em=>?_⟩
 have Hq:aL H H4:=fun b o z=>Lz _ _ (Ga _ _ z) (by simp; intro e; rw[e,Ve] at z; cases z)
 have Z3:=Hq.trans s5
 have Yy:H m=none:=by
  cases q':H m with
  | none=>rfl
  | some o=>rw[Hq _ _ q'] at fm; cases fm
 have mdc:m≠dc:=fun z=>by rw[z,e4] at fm; cases fm
 have Y5:=YA.mono Z3
 have Bt:∀b∈a.own,b≠dc/\b≠m:=fun b hb=>by
  obtain⟨o,e,_⟩:=YA.al b hb;exact⟨fun z=>(by rw[z,Ve] at e; cases e),fun z=>(by rw[z,Yy] at e; cases e)⟩
 rw[oX];walk_at "rd";obtain⟨dx5,ob5⟩:=Y5.ob;refine⟨_,_,_,_,_,rfl,ob5,Z.cl,Z.n2,lU ..,?_⟩;have nsl:(y.ns.map V.str).length=y.ns.length:=cT ..;refine LK.of Y5.lo (fun i σ H'=>∃o3 o4 o6 o7 xs,σ=[some (.ref a.p),some (.ref l),some (.ref dc),o3,o4,some (.ref m),o6,o7]/\bK C H' a (iB y cm i).1/\H' dc=some (.dK (zK y.ns ((iB y cm i).2.1.map V.int)))/\H' m=some (.lst xs)/\aa H' ((iB y cm i).2.2.map Aa) xs/\Fr [a.ds,a.dt,dc,m] H5 H') ⟨_,_,_,_,[],rfl,Y5,s5 _ _ e4,em,aa.nil,Fr.refl _ _⟩ (fun i σ H' _ ⟨_,_,_,_,_,_,Y',_⟩=>by have:=Y'.lo; rw[(lD y cm i).n] at this; exact this) ?_ ?_
 ·rintro i x σ H6 hx ⟨o3,o4,o6,o7,xs,rfl,Y6,e6,em6,ax,Yw⟩;rw[dw] at hx;cases hn:y.ns[i]? with
  | none=>rw[hn] at hx; cases hx
  | some n=>
  rw[hn] at hx;cases hx;have hi:i<y.ns.length:=(eN.mp hn).1;obtain⟨r1,r2,r3,r4,r5,r6,r7⟩:=lD y cm i;have YO6:jD (iB y cm i).1:=Gb YO (pH hi);have Xw:iB y cm (i+1)=t_ (iB y cm i) i:=rfl;rw[Xw];generalize iB y cm i=z at Y6 e6 ax YO6 r1 r2 r3 r4 r5 r6 r7 ⊢;obtain⟨zy,zc,zr⟩:=z;dsimp only at r1 r2 r3 r4 r5 r6 r7 Y6 e6 ax YO6;have ec:zc[i]?=some (zc.getD i 0):=by rw[nQ,gG (by omega:i<zc.length)]; rfl
  walk_at "rd";refine Me.of (m:="post_beat") (R:=fun p=>_) Y6 (fun _ _ _ _ _ _ _=>rfl) ?_;refine⟨dc,.int (zc.getD i 0),rfl,j8.z e6 YO.nn hn (by rw[cT]; omega) (by rw[dw,ec]; rfl),?_⟩
  refine⟨a,zy,i,n,zc.getD i 0,rfl,Y6,YO6,by rw[r1]; exact hn,fun v H7 Y7 Q6 av=>?_⟩
  have Va:a.ds∈a.own/\a.dt∈a.own:=by unfold Ya.own; simp
  have dcO:dc∉[a.ds,a.dt]:=by simp; exact⟨Ne.symm (Bt _ Va.1).1,Ne.symm (Bt _ Va.2).1⟩
  have mO:m∉[a.ds,a.dt]:=by simp; exact⟨Ne.symm (Bt _ Va.1).2,Ne.symm (Bt _ Va.2).2⟩
  have e7:=Q6 _ _ e6 dcO;have Xx:=Q6 _ _ em6 mO;have Xc:fL H6 H7:=Y6.kp (Q6.sub fun b hb=>.inl (by simp at hb; rcases hb with rfl | rfl; exact Va.1; exact Va.2))
  have ax7:=aa.kp Xc _ _ (fZ _) ax;have lxs:=ax.length;rw[cT,r7] at lxs;have l2:=YO.lo;have eo:y.os[i]?=some y.os[i]:=gG (by omega)
  have eo':zy.os.getD i none=y.os[i]:=by rw[r3,nQ,eo]; rfl
  have dn7:H7 a.dn=some (.dK (zK y.ns (y.os.map Ab))):=by
   have:=Y7.dn;rw[show(QZ zy i (zc.getD i 0)).ns=zy.ns from rfl,show(QZ zy i (zc.getD i 0)).os=zy.os from rfl,r1,r3] at this;exact this
  have helper:∀(H8:Hp) (cn:List Int),H8 dc=some (.dK (zK y.ns (cn.map V.int)))->Fr [dc] H7 H8->H8 m=some (.lst xs)/\(bK C (upd H8 m (.lst (xs++[v]))) a (QZ zy i (zc.getD i 0))/\upd H8 m (.lst (xs++[v])) dc=some (.dK (zK y.ns (cn.map V.int)))/\upd H8 m (.lst (xs++[v])) m=some (.lst (xs++[v]))/\aa (upd H8 m (.lst (xs++[v]))) ((zr++[wZ zy i (zc.getD i 0)]).map Aa) (xs++[v])/\Fr [a.ds,a.dt,dc,m] H5 (upd H8 m (.lst (xs++[v])))):=fun H8 cn e8 MT=>by
   have Q9:=MT _ _ Xx (by simpa using mdc)
   have k8:fL H7 H8:=MT.kp fun b hb xs z=>by rw[gF.mp hb,e7] at z; cases z
   have k9:fL H8 (upd H8 m (.lst (xs++[v]))):=fL.putL Q9;have k79:=k8.trans k9;refine⟨Q9,Y7.keep k79 (fun b hb o e=>by rw[aJ (Bt b hb).2]; exact MT _ _ e (by simpa using(Bt b hb).1)),by rw[aJ mdc.symm]; exact e8,aA,?_,?_⟩
   ·rw[jK];exact(aa.kp k79 _ _ (fZ _) ax7).snoc (At.kp k79 _ _ (rw_noL _) av)
   ·exact Yw.trans ((Q6.sub fun b hb=>.inl (by simp at hb ⊢; rcases hb with h | h <;> simp[h])).trans ((MT.sub fun b hb=>.inl (by rw[gF.mp hb]; simp)).trans (Fr.put (by simp))))
  have stp:t_ (zy,zc,zr) i=(QZ zy i (zc.getD i 0),match y.os[i] with
   | none=>zc
   | some o=>zc.set (y.ns.idxOf o) (zc.getD (y.ns.idxOf o) 0+(wZ zy i (zc.getD i 0)).d),zr++[wZ zy i (zc.getD i 0)]):=by
   unfold t_;dsimp only;rw[eo',r1]
  rw[stp];obtain⟨dx7,ob7⟩:=Y7.ob;have dgo:=j8.z dn7 YO.nn hn (by rw[cT]; omega) (v:=Ab y.os[i]) (by rw[dw,eo]; rfl)
  refine⟨_,_,_,_,_,rfl,ob7,Z.cl,Z.n4,vh ..,_,_,rfl,dgo,trivial,?_⟩;cases how:y.os[i] with
  | none=>
   rw[aV (by simp[Ab])]
   obtain⟨Q9,h8⟩:=helper H7 zc e7 (Fr.refl _ _);exact⟨.inl ⟨rfl,_,cV.of Q9⟩,m,xs,v,rfl,rfl,Q9,aW (by omega),_,_,_,_,_,rfl,h8⟩
  | some o=>
   rw[a_ (by simp[Ab])]
   have oin:o∈y.ns:=Oi (YO.og i o (by rw[eo,how]))
   have hj:y.ns.idxOf o<y.ns.length:=List.idxOf_lt_length_of_mem oin;have ej:y.ns[y.ns.idxOf o]?=some o:=by rw[gG hj,List.getElem_idxOf hj]
   have ecj:zc[y.ns.idxOf o]?=some (zc.getD (y.ns.idxOf o) 0):=by rw[nQ,gG (by omega:y.ns.idxOf o<zc.length)]; rfl
   obtain⟨b,ys,rfl,hb1,hb2⟩:=bB av;obtain⟨x0,_,rfl,b0,hb2⟩:=aa.aM hb2;obtain⟨x1,_,rfl,b1,hb2⟩:=aa.aM hb2;obtain⟨x2,_,rfl,b2,hb2⟩:=aa.aM hb2;have ex2:x2=.int (wZ zy i (zc.getD i 0)).d:=by unfold At at b2; exact b2
   subst ex2;refine⟨dc,.int (zc.getD (y.ns.idxOf o) 0),rfl,j8.z e7 YO.nn ej (by rw[cT]; omega) (by rw[dw,ecj]; rfl),Ix.tup hb1 (aU (j:=2) rfl) ⟨_,_,rfl,rfl,_,sO.z e7 YO.nn ej (by rw[cT]; omega) (by omega),?_⟩⟩
   obtain⟨Q9,h8⟩:=helper (upd H7 dc (.dK (zK y.ns ((zc.map V.int).set (y.ns.idxOf o) (.int (zc.getD (y.ns.idxOf o) 0+(wZ zy i (zc.getD i 0)).d)))))) (zc.set (y.ns.idxOf o) (zc.getD (y.ns.idxOf o) 0+(wZ zy i (zc.getD i 0)).d)) (by rw[aA,List.map_set]) (Fr.put (by simp))
   exact⟨.inl ⟨rfl,_,cV.of Q9⟩,m,xs,_,rfl,rfl,Q9,aW (by omega),_,_,_,_,_,rfl,h8⟩
 ·rintro σ H6 ⟨o3,o4,o6,o7,xs,rfl,Y6,e6,em6,ax,Yw⟩;rw[nsl] at Y6 e6 ax;rw[<- eR] at ax;walk_at "rd";have RI:=lD y cm y.ns.length;have pl:=Y6.pa.length;rw[RI.a] at pl;obtain⟨dx6,ob6⟩:=Y6.ob;have lpO:a.lp∈a.own:=by unfold Ya.own; simp
  refine⟨_,_,_,_,_,rfl,ob6,Z.cl,Z.n7,zq ..,.inl ⟨rfl,_,cV.of Y6.lp⟩,a.lp,_,_,rfl,rfl,Y6.lp,aW (by rw[cT]; omega),?_⟩
  have lm:m≠a.lp:=Ne.symm (Bt _ lpO).2;have k7:fL H6 (upd H6 a.lp (.lst (a.eO.map V.ref++[.ref m]))):=fL.putL Y6.lp;have f7:Fr [a.lp] H6 (upd H6 a.lp (.lst (a.eO.map V.ref++[.ref m]))):=Fr.put (by simp)
  have e7:upd H6 a.lp (.lst (a.eO.map V.ref++[.ref m])) a.lp=some (.lst (a.eO.map V.ref++[.ref m])):=aA;generalize upd H6 a.lp (.lst (a.eO.map V.ref++[.ref m]))=H7 at k7 f7 e7 ⊢;have Xx:=f7 _ _ em6 (by simpa using lm)
  refine⟨m,xs,rfl,Xx,fun p fp=>?_⟩;have s8:=aN fp (HO.lst xs);have e8:upd H7 p (.lst xs) p=some (.lst xs):=aA;generalize upd H7 p (.lst xs)=H8 at s8 e8 ⊢;have Xb:fL H6 H8:=k7.trans s8.kp
  have MT:Fr [a.ds,a.dt,a.lp] H H8:=fun b o z nb=>by
   simp only[d_,cW,or_false,not_or] at nb;have h5:=Z3 _ _ z
   have h6:=Yw _ _ h5 (by
    simp only[d_,cW,or_false,not_or]
    exact⟨nb.1,nb.2.1,fun e=>(by rw[e,Ve] at z; cases z),fun e=>(by rw[e,Yy] at z; cases z)⟩)
   exact s8 _ _ (f7 _ _ h6 (by simpa using nb.2.2))
  have fp0:H p=none:=by
   cases q':H p with
   | none=>rfl
   | some o=>
    have hb:H5 p=some o:=Z3 _ _ q';by_cases c1:p∈[a.ds,a.dt,a.lp]
    ·exfalso;simp only[d_,cW,or_false] at c1;rcases c1 with h | h | h
     ·obtain⟨o',e',_⟩:=Y6.al a.ds (by unfold Ya.own; simp)
      rw[h,f7 _ _ e' (by simp; intro z; have:=YA.nd; unfold Ya.own at this; have:=(uD.mp this).1; simp[z] at this)] at fp
      cases fp
     ·obtain⟨o',e',_⟩:=Y6.al a.dt (by unfold Ya.own; simp)
      rw[h,f7 _ _ e' (by simp; intro z; have:=YA.nd; unfold Ya.own at this; have:=(uD.mp this).1; simp[z] at this)] at fp
      cases fp
     ·rw[h,e7] at fp; cases fp
    ·exfalso;simp only[d_,cW,or_false,not_or] at c1
     have h6:=Yw _ _ hb (by
      simp only[d_,cW,or_false,not_or]
      exact⟨c1.1,c1.2.1,fun e=>(by rw[e,Ve] at q'; cases q'),fun e=>(by rw[e,Yy] at q'; cases q')⟩)
     rw[f7 _ _ h6 (by simpa using c1.2.2)] at fp
     cases fp
  have pm:p≠m:=fun z=>by rw[z,Xx] at fp; cases fp
  have XN:=aa.kp Xb _ _ (fZ _) ax;have nd:=YA.nd;unfold Ya.own at nd;obtain⟨MP,SN,Yt⟩:=uD.mp nd;have acj:∀b∈a.own,b≠a.lp->∀o,H6 b=some o->H8 b=some o:=fun b hb n o e=>s8 _ _ (f7 _ _ e (by simpa using n))
  have U8:a.p≠a.lp/\a.lo≠a.lp/\a.dp≠a.lp/\a.dn≠a.lp/\a.ds≠a.lp/\a.dt≠a.lp:=by
   simp only[jL,d_,cW,not_or,or_false] at MP;exact⟨MP.1.2.2.2.2.2,MP.2.1.2.2.2.2,MP.2.2.1.2.2.2,MP.2.2.2.1.2.2,MP.2.2.2.2.1.2,MP.2.2.2.2.2.1⟩
  have kO:∀{b:Addr} {o:HO},H6 b=some o->b≠a.lp->H8 b=some o:=fun {b o} e n=>s8 _ _ (f7 _ _ e (by simpa using n))
  obtain⟨v3,c3,g3⟩:=Y6.dp;obtain⟨v5,c5,g5⟩:=Y6.ds;obtain⟨v6,c6,g6⟩:=Y6.dt;refine q p m xs H8 Yy fp0 pm ?_ e8 XN MT;rw[eY];refine⟨⟨dx6,kO ob6 U8.1⟩,kO Y6.lo U8.2.1,⟨v3,kO c3 U8.2.2.1,aa.kp Xb _ _ (eU _) g3⟩,kO Y6.dn U8.2.2.2.1,⟨v5,kO c5 U8.2.2.2.2.1,aa.kp Xb _ _ (dJ _) g5⟩,⟨v6,kO c6 U8.2.2.2.2.2,aa.kp Xb _ _ (i_ _) g6⟩,?_,?_,?_⟩
  ·show H8 a.lp=some (.lst ((a.eO++[m]).map V.ref));rw[jK];exact s8 _ _ e7
  ·show cu H8 (a.eO++[m]) (y.pa++[Rb y cs]);have P6:=Y6.pa;rw[RI.a] at P6;exact cu.snoc (P6.keep Xb fun b hb o e=>kO e (fun z=>Yt a.lp (by simp) b hb z.symm)) (s8 _ _ Xx) XN
  ·show([a.p,a.lo,a.dp,a.dn,a.ds,a.dt,a.lp]++(a.eO++[m])).Nodup;rw[<- Hw,uD];exact⟨nd,by simp,fun u hu v hv e=>by rw[gF.mp hv] at e; exact(Bt u hu).2 e⟩
def fD (t:Int) (n:Str) (x:fu) (st:dY) (tl:List Int) (pa:List (List Rw)):Yd:=⟨t,[n],[x],[none],[st],[tl],pa⟩
structure Ez (t:Int) (n:Str) (x:fu) (st:dY) (tl:List Int) (pa:List (List Rw)):Prop where
 ng:∃cs,n=tx cs/\MK cs
 px:Qq x
 sn:Jx st
 hs:hnd st+12<=t
 hx:x.hi+12<=t
 tl:tl.length=3
 pn:pa.length<=500
 pl:∀r∈pa,r.length<=5
theorem Ez.ok {t:Int} {n:Str} {x:fu} {st:dY} {tl:List Int} {pa:List (List Rw)} (h:Ez t n x st tl pa):jD (fD t n x st tl pa):=by
 have h1:=h.hs;have h2:=h.hx;have h3:=h.px.lo;refine⟨by simp[fD],by simp[fD],by simp[fD],rfl,rfl,rfl,rfl,?_,?_,?_,?_,?_,?_,?_,h.pn,h.pl⟩
 ·intro m hm;rw[gF.mp hm]; exact h.ng
 ·intro z hz;rw[gF.mp hz]; exact h.px
 ·intro i s hs;cases i with
  | zero=>cases hs
  | succ i=>simp[fD] at hs
 ·intro z hz;rw[gF.mp hz]; exact h.sn
 ·intro z hz;rw[gF.mp hz]; exact h.tl
 ·show hnd st+0<=t;omega
 ·show x.lo+0<=t;omega
def mY (n:Str) (x:fu) (st:dY) (c:Int):Rw:=⟨n,c,fH x st c,c-dF x st c,qm x st c 12⟩
theorem KR {t:Int} {n:Str} {x:fu} {st:dY} {tl:List Int} {pa:List (List Rw)} (h:hnd st+12<=t):lR (fD t n x st tl pa)=12:=by
 unfold lR;show(if 12<t-(hnd st+0) then 12 else t-(hnd st+0))=12
 split <;> omega
theorem KY {t:Int} {n:Str} {x:fu} {st:dY} {tl:List Int} {pa:List (List Rw)} {cs:List (Str×Int)} {c:Int} (h:hnd st+12<=t) (hc:vJ [n] cs=[c]) :
  Rb (fD t n x st tl pa) cs=[mY n x st c]/\YZ (fD t n x st tl pa) cs=fD t n x (dm x st c) (Cm tl c (fH x st c) (c-dF x st c)) (pa++[[mY n x st c]]):=by
 have hf:=KR (n:=n) (x:=x) (tl:=tl) (pa:=pa) h
 have e1:wZ (fD t n x st tl pa) 0 c=mY n x st c:=by
  unfold wZ mY;rw[hf]; rfl
 have e2:Sv (fD t n x st tl pa) 0 c=dm x st c:=by
  unfold Sv dm;rw[hf]; rfl
 have er:iB (fD t n x st tl pa) (vJ (fD t n x st tl pa).ns cs) (fD t n x st tl pa).ns.length=(QZ (fD t n x st tl pa) 0 c,[c],[wZ (fD t n x st tl pa) 0 c]):=by
  show t_ (fD t n x st tl pa,vJ [n] cs,[]) 0=_;rw[hc]; rfl
 have eR:Rb (fD t n x st tl pa) cs=[mY n x st c]:=by
  unfold Rb;rw[er,e1]
 refine⟨eR,?_⟩;unfold YZ;rw[eR,er];show Yd.mk t [n] [x] [none] ([st].set 0 (Sv (fD t n x st tl pa) 0 c)) ([tl].set 0 (Cm tl c (wZ (fD t n x st tl pa) 0 c).d (wZ (fD t n x st tl pa) 0 c).a)) _=_;rw[e2,e1]; rfl
theorem Qj (n:Str):vJ [n] []=[0]:=rfl
theorem Ml (n:Str) (c:Int):vJ [n] [(n,c)]=[c]:=by simp[vJ,List.lookup]
theorem HY {x:fu} {st:dY} {c t:Int} (hx:Qq x) (hs:Jx st) (h1:hnd st+12<=t) (h2:x.hi+12<=t):Jx (dm x st c)/\hnd (dm x st c)+12<=t:=by
 have N:=Le (c:=c) hx hs (by decide:(0:Int)<=12)
 refine⟨N.s,?_⟩;have e:hnd (dm x st c)=hnd st+qm x st c 12:=N.h;rw[e];have hlo:=hx.lo
 have hw:q_ x.iC x.lo x.hi (st.r+st.cs.sum) (fG x st c)<=x.hi:=by
  unfold q_;simp only
  repeat' split <;> try omega
 have:qm x st c 12<=0\/hnd st+qm x st c 12<=x.hi:=by
  unfold qm hnd;rw[je hs.c];split
  ·unfold tK;split <;> omega
  ·omega
 omega
theorem Ez.next {t:Int} {n:Str} {x:fu} {st:dY} {tl:List Int} {pa:List (List Rw)} (h:Ez t n x st tl pa) (c:Int) (hp:pa.length<500):Ez t n x (dm x st c) (Cm tl c (fH x st c) (c-dF x st c)) (pa++[[mY n x st c]]):=by
 obtain⟨a,b⟩:=HY (c:=c) h.px h.sn h.hs h.hx;refine⟨h.ng,h.px,a,b,h.hx,rfl,by rw[dh]; simp; omega,fun r hr=>?_⟩
 rcases fC.mp hr with z | z
 ·exact h.pl r z
 ·rw[gF.mp z]; simp
theorem Ip (is:List Int):PyData.hasDict (.list (is.map .int))=false/\PyData.canLay0 (.list (is.map .int))=true/\PyData.depth (.list (is.map .int))<=60:=by
 obtain⟨d1,d2,d3⟩:=mJ is;exact⟨by simpa[PyData.hasDict] using d1,by simpa[PyData.canLay0] using d2,by show PyData.depthAll _+1<=60; rw[d3]; decide⟩
theorem JQ (ws:List Int):PyData.hasDict (cY ws)=false/\PyData.canLay0 (cY ws)=true/\PyData.depth (cY ws)=1:=by
 obtain⟨d1,d2,d3⟩:=mJ ws;exact⟨by simpa[cY,PyData.hasDict] using d1,by simpa[cY,PyData.canLay0] using d2,by show PyData.depthAll _+1=1; rw[d3]⟩
theorem tR:∀us:List (List Int),PyData.hasDictAll (us.map cY)=false/\PyData.canLayAll0 (us.map cY)=true/\PyData.depthAll (us.map cY)<=1
 | []=>⟨rfl,rfl,iY _⟩
 | u::us=>by
  obtain⟨h1,h2,h3⟩:=tR us;obtain⟨g1,g2,g3⟩:=JQ u;refine⟨?_,?_,?_⟩
  ·show(PyData.hasDict (cY u) || PyData.hasDictAll (us.map cY))=false;rw[h1,g1]; rfl
  ·show(PyData.canLay0 (cY u)&&PyData.canLayAll0 (us.map cY))=true;rw[h2,g2]; rfl
  ·show max (PyData.depth (cY u)) (PyData.depthAll (us.map cY))<=1;rw[g3]; omega
theorem Fy (n:dY):PyData.hasDict (jR n)=false/\PyData.canLay0 (jR n)=true/\PyData.depth (jR n)<=60:=by
 obtain⟨d1,d2,d3⟩:=mJ n.cs;obtain⟨e1,e2,e3⟩:=tR n.us;refine⟨by simpa[jR,PyData.hasDict,PyData.hasDictAll] using⟨d1,e1⟩,by simpa[jR,PyData.canLay0,PyData.canLayAll0] using⟨d2,e2⟩,?_⟩
 simp only[jR,PyData.depth,PyData.depthAll,d3];omega
theorem J0 {l:List Nat} (h:∀c∈l,c<128):PyData.strOk (tx l)=true:=by
 show l.toArray.all (· < 0x110000)=true;simp only[List.all_toArray,mW,decide_eq_true_eq];intro c hc;have:=h c hc;omega
theorem Ef (us:List (List Int)):PyData.hasDict (.list (us.map cY))=false/\PyData.canLay0 (.list (us.map cY))=true/\PyData.depth (.list (us.map cY))<=60:=by
 obtain⟨d1,d2,d3⟩:=tR us;exact⟨by simpa[PyData.hasDict] using d1,by simpa[PyData.canLay0] using d2,by show PyData.depthAll _+1<=60; omega⟩
theorem Ke {r:Rw} (h:PyData.strOk r.n=true):PyData.hasDict (.list ([r].map Aa))=false/\PyData.canLay0 (.list ([r].map Aa))=true/\PyData.depth (.list ([r].map Aa))<=60:=by
 refine⟨rfl,?_,(show 2<=60 by decide)⟩
 show((PyData.strOk r.n&&(true&&(true&&(true&&(true&&true)))))&&true)=true;rw[h]; rfl
def jH (nm:Str) (x:fu):dY->List Int->List Rw
 | _,[]=>[]
 | st,c::cs=>mY nm x st c::jH nm x (dm x st c) cs
theorem pC (nm:Str) (x:fu):∀(st:dY) (l:List Int) (c:Int),jH nm x st (l++[c])=jH nm x st l++[mY nm x (bC x st l) c]
 | _,[],_=>rfl
 | st,d::l,c=>by
  show mY nm x st d::jH nm x (dm x st d) (l++[c])=_;rw[pC nm x (dm x st d) l c]; rfl
theorem qG (nm:Str) (x:fu):∀(st:dY) (l:List Int),(jH nm x st l).length=l.length
 | _,[]=>rfl
 | st,d::l=>by
  show(jH nm x (dm x st d) l).length+1=_;rw[qG nm x _ l]; rfl
theorem wW (nm:Str) (x:fu):∀(st:dY) (l:List Int),(jH nm x st l).map (fun r=>[r.d,r.a,r.h])=iI x st l
 | _,[]=>rfl
 | st,d::l=>by
  show _::(jH nm x (dm x st d) l).map _=Hr x st d::iI x (dm x st d) l;rw[wW nm x _ l]; rfl
theorem uz (nm:Str) (x:fu):∀(st:dY) (l:List Int),(jH nm x st l).map (·.c)=l
 | _,[]=>rfl
 | st,d::l=>by
  show _::(jH nm x (dm x st d) l).map _=_;rw[uz nm x _ l]; rfl
theorem rw_shape {H:Hp} {r:Rw} {v:V} (h:At H (Aa r) v):∃b,v=.ref b/\H b=some (.tup [.str r.n,.int r.c,.int r.d,.int r.a,.int r.h]):=by
 obtain⟨b,xs,rfl,h1,h2⟩:=bB h;obtain⟨x0,_,rfl,b0,h2⟩:=aa.aM h2;obtain⟨x1,_,rfl,b1,h2⟩:=aa.aM h2;obtain⟨x2,_,rfl,b2,h2⟩:=aa.aM h2;obtain⟨x3,_,rfl,b3,h2⟩:=aa.aM h2;obtain⟨x4,_,rfl,b4,h2⟩:=aa.aM h2;cases aa.gW h2;unfold At at b0 b1 b2 b3 b4;subst b0 b1 b2 b3 b4;exact⟨b,rfl,h1⟩
def TwC (C:Addr) (HF H':Hp) (O:List Addr) (Y:Yd) (tv:V) (b:Bool):Prop:=(b=true/\tv=.non)\/(b=false/\∃tb,tv=.ref tb.p/\bK C H' tb Y/\∀c∈tb.own,HF c=none/\c∉O)
def WkI (C:Addr) (tt:Int) (nm:Str) (x:fu) (st:dY) (ls:List Int) (HF:Hp) (ya:Ya) (tl:Addr) (hd:Int) (i:Nat) (tv:V) (H':Hp):Prop:=∃eO tl' pa xs,
 bK C H' { ya with eO:=eO } (fD tt nm x (bC x st (ls.take i)) tl' pa)/\Ez tt nm x (bC x st (ls.take i)) tl' pa/\pa.length=i/\(∀c∈eO,HF c=none) /\
 H' tl=some (.lst xs)/\aa H' ((jH nm x st (ls.take i)).map Aa) xs/\Fr [ya.ds,ya.dt,ya.lp,tl] HF H'/\TwC C HF H' ({ ya with eO:=eO }:Ya).own (fD tt nm x (bC x st (ls.take i)) tl' pa) tv (decide ((i:Int)<=hd))
def Hj (c:TT) (a b:TE):TE:=U4 c a b
theorem ifO {c:TT} {t:TA}:U4 c (tC .non) (rm t)=Hj c (tC .non) (rm t):=rfl
theorem aas {c:TT} {t:TA}:U4 c (rm vK) (rm t)=Hj c (rm vK) (rm t):=rfl
theorem Wa {c:TT} {e:TE} {b:TS}:Hh (Hi c (tW e (fM 10)) Ft) b=nj (Hi c (tW e (fM 10)) Ft) b:=rfl
theorem Hj.of {c:TT} {a b:TE} {σ:St} {H:Hp} {Q:VK} (R:V->Hp->Prop) (hR:∀v H',R v H'->Q v H') (h:∀N:VK,(∀v H',R v H'->N v H')->U4 c a b σ H N):Hj c a b σ H Q:=h _ hR
def V9:Sp:=fun vs H Q _=>∃(a:Addr) (n:Nat),vs=[.ref a]/\Tp H a n/\n<=100000/\∀H',SX a H H'->Q (.bl true) H'
theorem rA:aR ["_law_tape_here","_law_post_here","_law_name","_law_load_here","_law_stand_here","_law_begun","_law_there","_law_total","_law_yard","_law_half","_law_twin","_law_told","_law_k","_law_come","_law_line","_law_last"] ["_law_tape_here"] (aC nM):=(by walk_at "c")
theorem Br {C:Addr} (F:jh K "_law_walked" "_law_walked" nM f fd) (B:Bi mg) (aK:Ct P w K mg base k "_law_draw" ["_law_tape_here","_law_many"] fO) (Mr:Ct P w K mg base k "_law_post" ["_law_tape_here"] x_) (vD:Ct P w K mg base k "_law_small_post" ["_law_tape_here"] x_) (Jl:Ct P w K mg base k "_law_names" ["_law_tape_here","_law_many"] RM) (Ms:Ct P w K mg base k "_law_load" ["_law_tape_here"] RN) (Jk:Ct P w K mg base k "_law_stand" ["_law_tape_here"] Fz) (dB:Ct P w K mg base k "first_stand" ["post"] yc) (bU:Ct P w K mg base k "hands_of" ["stand"] oZ) (vC:Ct P w K mg base k "played" ["post","stand","load"] Aj) (zQ:Ct P w K mg base k "after" ["post","stand","load"] FQ) (qT:UT P w K mg base k C "Yard" ["self","total","posts","stands"] (Df C)) (gq:Cu P w K mg base k C "stand" ["self","name"] (QK C gS)) (ig:Cu P w K mg base k C "beat" ["self","comes"] (V8 C)) (j5:Cu P w K mg base k C "twin" ["self"] (QH C)) (dC:Cu P w K mg base k C "hands" ["self"] (RK C)) (jC:Cu P w K mg base k C "beats" ["self"] (QM C)):bD P w K mg base fY (k+1) f fd ["_law_tape_here"] V9:=by
 refine F.ok rA (by rintro vs H Q E ⟨a,n,rfl,_⟩; rfl) (fun cdv A outer s H vs Q E hr h=>?_)
 obtain⟨a,n,rfl,tp,hn,q⟩:=h;have ND:=rA.nd;refine⟨_,(aq (aQ (i:=1) ND rfl (by walk_at "o") (cL (aZ gJ (pf aK hr (ak (pv 0) (ak ao aj))) ao (bh _)) (pf Mr hr (ak (pv 0) aj)) (pf vD hr (ak (pv 0) aj)))) (aq (qL (i:=2) (j:=3) rfl ND rfl rfl (by decide) rfl rfl (ak (bw bf (pf Jl hr (ak (pv 0) (ak ao aj))) ao (fun _ _=>rfl)) (ak (pf Ms hr (ak (pv 0) aj)) aj)) (by rfl)) (aq (aQ (i:=4) ND rfl (by walk_at "o") (cL (aZ gJ (pf aK hr (ak (pv 0) (ak ao aj))) ao (bh _)) (pf Jk hr (ak (pv 0) aj)) gR)) (aq (aQ (i:=5) ND rfl (by walk_at "o") (cL (aZ DR (pv 4) gR (bh _)) (pf dB hr (ak (pv 1) aj)) (pv 4))) (aq (aQ (i:=6) ND rfl (by walk_at "o") (pb (fV rfl) B.max l_ (ak (aO bA (bw bf (pv 5) ao (fun _ _=>rfl)) (pb (il rfl) B.sum qU (ak (bw bf (pv 5) ao (fun _ _=>rfl)) aj))) (ak (bw bf (bw bf (pv 1) ao (fun _ _=>rfl)) ao (fun _ _=>rfl)) aj)))) (aq (aQ (i:=7) ND rfl (by walk_at "o") (bw bf (bV (ak ao (ak (aO bA (pb (fV rfl) B.max l_ (ak (pv 6) (ak (bw bf (bw bf (pv 1) ao (fun _ _=>rfl)) ao (fun _ _=>rfl)) aj))) ao) aj))) (pf aK hr (ak (pv 0) (ak ao aj))) (fun _ _=>rfl))) (aq (aQ (i:=8) ND rfl (by walk_at "o") (pk qT hr (ak (pv 7) (ak (bV (ak (bj (ak (pv 2) (ak (pv 1) (ak gR aj)))) aj)) (ak (cL (aZ DR (pv 4) gR (bh _)) gR (bV (ak (pv 4) aj))) aj))))) (aq (di (aZ (yM hr.units) (pm gq hr (pv 8) (ak (pv 2) aj)) (pv 5) (bh _)) (aH (aY uL)) bM) (aq (Gf (i:=9) (j:=10) (l:=11) rfl ND rfl rfl rfl rfl rfl rfl (ak (pf aK hr (ak (pv 0) (ak (aO bA (pb (cX (K:=K) rfl) B.len eZ (ak (pv 3) aj)) ao) aj))) (ak gR (ak (bV aj) aj))) (by rfl)) (aq (gP PassesOwn.never rfl (Gh (K:=K) rfl B.enumerate (ak (pv 3) aj)) (bT (K:=K) (n:=2) rfl rfl (aG (aF (i:=12) ND rfl (by walk_at "o")) (aG (aF (i:=13) ND rfl (by walk_at "o")) bQ))) (aq (di (aZ gJ (pv 12) (pv 9) (bh _)) (aH (aQ (i:=10) ND rfl (by walk_at "o") (U6 j5 hr (pv 8)))) bM) (aq (aQ (i:=14) ND rfl (by walk_at "o") (pm ig hr (pv 8) (ak (cL (aZ gJ (pv 13) ao (bh _)) (bV aj) (bV (ak (bj (ak (pv 2) (ak (pv 13) aj))) aj))) aj))) (aq (di (PW.pt (yx (aZ sX (pv 10) gR (bh _)) (sW (aZ (yM hr.units) (pm ig hr (pv 10) (ak (bV (ak (bj (ak (pv 2) (ak (pv 13) aj))) aj)) aj)) (pv 14) (bh _))))) (aH (aY uL)) bM) (aH (cZ (gU (K:=K) rfl PySem.F.plainAttrs_list PySem.F.slot_list_extend PySem.F.type_list_extend Im (pv 11) (ak (pv 14) aj)))))))) (aq (di (PW.pt (Bk (aZ (yM hr.units) (cP (N':=["_law_row_here"]) (js:=[]) rfl (bH (K:=K) rfl (pv 11)) qt.Q3 rfl (by decide) rfl (fun fp s' H'=>(eQ jT (pv 0) (gb ao) gf))) (pf vC hr (ak (pv 1) (ak (pv 5) (ak (pv 3) aj)))) (bh _)) (uE (aZ (yM hr.units) (cP (N':=["_law_row_here"]) (js:=[]) rfl (bH (K:=K) rfl (pv 11)) qt.Q3 rfl (by decide) rfl (fun fp s' H'=>(bw bf (pv 0) ao (fun _ _=>rfl)))) (pv 3) (bh _))))) (aH (aY uL)) bM) (aq (aQ (i:=15) ND rfl (by walk_at "o") (pf zQ hr (ak (pv 1) (ak (pv 5) (ak (pv 3) aj))))) (aH (aY (KN (gk (Sx hr.units) (pm gq hr (pv 8) (ak (pv 2) aj)) (pv 15) (bh _)) (KN (gk gJ (U6 dC hr (pv 8)) (pf bU hr (ak (pv 15) aj)) (bh _)) (Sg (gk gJ (U6 jC hr (pv 8)) (pb (cX (K:=K) rfl) B.len eZ (ak (pv 3) aj)) (bh _))))))))))))))))))),?_⟩
 simp only[FT 1,FT 4,FT 5,Wa,ifO,aas];refine nj.of (R:=fun σ H'=>∃pv x,σ=[some (.ref a),some pv,none,none,none,none,none,none,none,none,none,none,none,none,none,none]/\Qq x/\At (hid a H') (gZ x) pv/\Tp H' a (n+401)/\SX a H H') ?_ ?_
 ·rintro σ H1 ⟨pv,x,rfl,hx,ax1,tp1,sx1⟩;walk_at "rd";refine Nm.of (m:=1) rfl (by decide) tp1 (by omega) fun pn zs H2 fn na lz gz _ en tp2 sx2=>?_
  obtain⟨z,rfl⟩:∃z,zs=[z]:=by
   match zs,lz with
   | [z],_=>exact⟨z,rfl⟩
  have gz':=gz z (by simp)
  refine Ix.lst en (aU (j:=0) rfl) ?_;walk_at "rd";refine Ld.of tp2 (by omega) fun ld ls H3 Je la l40 lu el tp3 sx3=>?_
  have ZR:=sx1.trans (sx2.trans sx3);have ax3:=ax1.mono (aL.trans sx2 sx3);refine⟨_,_,rfl,?_⟩;refine nj.of (R:=fun σ H'=>∃sv,σ=[some (.ref a),some pv,some (.str (tx z)),some (.ref ld),some sv,none,none,none,none,none,none,none,none,none,none,none]/\(sv=.non\/∃p st,sv=.ref p/\Zb st/\At (hid a H') (jR st) sv)/\Tp H' a (n+1101)/\SX a H3 H') ?_ ?_
  ·rintro σ H4 ⟨sv,rfl,hsv,ZC,QG⟩;refine nj.of (R:=fun σ H'=>∃bv st,σ=[some (.ref a),some pv,some (.str (tx z)),some (.ref ld),some sv,some bv,none,none,none,none,none,none,none,none,none,none]/\((sv=.non/\st=lV x)\/∃p,sv=.ref p/\bv=sv)/\Jx st/\hnd st<=12/\At (hid a H') (jR st) bv/\Tp H' a (n+1101)/\SX a H4 H') ?_ ?_
   ·rintro σ H5 ⟨bv,st,rfl,hbv,sn,h12,ab,tp5,Yj⟩;walk_at "rd";have ax5:=ax3.mono (aL.trans QG Yj);obtain⟨b,bc,bu,rfl,hb,hbc,_⟩:=mC (ab.mono dW);obtain⟨Yo,pb0,pc,pd,rfl,hp0,hp2,_,_⟩:=uG (ax5.mono dW);refine Ix.tup hb (aU (j:=1) rfl) (Ix.tup hb (aU (j:=2) rfl) ⟨bc,st.cs,rfl,.inr hbc,_,_,rfl,rfl,?_⟩);refine Ix.tup hp0 (aU (j:=2) rfl) (Ix.tup hp2 (aU (j:=0) rfl) ⟨_,_,rfl,?_⟩);refine Ix.tup hp0 (aU (j:=2) rfl) (Ix.tup hp2 (aU (j:=1) rfl) ⟨_,_,rfl,by decide,fun p6 H6 f6 s6 e6=>?_⟩)
    refine cD.of (tp5.same s6) (by omega) (by decide) (by decide) fun d H7 d0 d1 t7 s7=>?_
    have p6a:p6≠a:=tp5.ne f6;have e7:=s7.get p6a e6
    obtain⟨tt,ett,ht1,ht2⟩:∃tt,Ck [V.int 60,V.int ((if x.hi>(if x.lo>st.r+st.cs.sum then x.lo else st.r+st.cs.sum) then x.hi else(if x.lo>st.r+st.cs.sum then x.lo else st.r+st.cs.sum))+12)] d=some (.int tt)/\hnd st+12<=tt/\x.hi+12<=tt:=by
     have hh:=hx.hi;have:d=0\/d=1:=by omega
     rcases this with rfl | rfl
     ·exact⟨60,rfl,by omega,by omega⟩
     ·refine⟨_,rfl,?_,?_⟩
      ·unfold hnd;split <;> split <;> omega
      ·split <;> split <;> omega
    refine Ix.lst e7 ett ?_;refine⟨by decide,fun p8 H8 f8 s8 e8=>⟨by decide,fun p9 H9 f9 s9 e9=>?_⟩⟩
    have Nz:SX a H5 H7:=(SX.of s6).trans s7;have Wc:=s8.trans s9;have t9:=t7.same Wc;have ax9:=(ax5.mono Nz).mono (aL.hid Wc);have ab9:=(ab.mono Nz).mono (aL.hid Wc);refine Hj.of (R:=fun v H'=>((sv=.non/\v=.non/\st=lV x)\/∃l,v=.ref l/\H' l=some (.lst [.ref b]))/\aL H9 H') ?_ ?_
    ·rintro v HA ⟨hv,sA⟩;intro y2 Ac fy fdx ne;have s3:aL HA (upd (upd HA Ac (.own y2)) y2 (.ins C Ac [])):=(aN fdx _).trans (aN (by rw[aJ ne.symm]; exact fy) _)
     have y2a:y2≠a:=(t9.same sA).ne fy;have Vm:=sA.trans s3;have t3':=t9.same Vm;have ei3:upd (upd HA Ac (.own y2)) y2 (.ins C Ac []) y2=some (.ins C Ac []):=aA;have lcA:∀l,HA l=some (.lst [.ref b])->upd (upd HA Ac (.own y2)) y2 (.ins C Ac []) l=some (.lst [.ref b]):=fun l e=>s3 _ _ e
     have WL:∀c,upd (upd HA Ac (.own y2)) y2 (.ins C Ac []) c=none->HA c=none:=fun c e=>by
      cases q':HA c with
      | none=>rfl
      | some o=>rw[s3 _ _ q'] at e; cases e
     generalize upd (upd HA Ac (.own y2)) y2 (.ins C Ac [])=HB at s3 Vm t3' ei3 lcA WL ⊢;have axB:=ax9.mono (aL.hid Vm);have abB:=ab9.mono (aL.hid Vm);have s8B:=s9.trans Vm;refine⟨y2,Ac,tt,p9,[.ref p8],[(tx z,x,none)],v,[st],rfl,ei3,Vm _ _ e9,aa.cons (At.tup (s8B _ _ e8) (aa.cons (At.str _) (aa.cons (axB.mono dW) (aa.cons (K9 none) aa.nil)))) aa.nil,⟨by simp,by simp,by simp,?_,?_,?_⟩,?_,?_,rfl,?_,?_,fun ya HC eya YC Zi Zj frC=>⟨rfl,?_⟩⟩
     ·intro u hu; rw[gF.mp hu]; exact⟨z,rfl,gz'⟩
     ·intro i u w' hu hw;cases i with
      | zero=>cases hu; cases hw
      | succ i=>simp at hu
     ·show x.lo+0<=tt;have:=hx.lo;omega
     ·intro u hu; rw[gF.mp hu]; exact hx
     ·rcases hv with⟨_,rfl,rfl⟩ | ⟨l,rfl,el⟩
      ·exact .inl ⟨rfl,rfl⟩
      ·exact .inr ⟨l,_,rfl,lcA l el,aa.cons (abB.mono dW) aa.nil⟩
     ·intro u hu; rw[gF.mp hu]; exact sn
     ·show hnd st+0<=tt;omega
     subst eya;have OG:Ez tt (tx z) x st [0,0,0] []:=⟨⟨z,rfl,gz'⟩,hx,sn,ht1,ht2,rfl,by simp,by simp⟩
     have YC':bK C HC ya (fD tt (tx z) x st [0,0,0] []):=YC
     have frn:∀c∈ya.own,H5 c=none/\c≠a:=fun c hc=>by
      have cB:c=ya.p\/HB c=none:=Zj c hc
      have cA:HA c=none:=by
       rcases cB with e | e
       ·rw[e]; exact fy
       ·exact WL c e
      have ca:=(t9.same sA).ne cA;refine⟨?_,ca⟩;cases q':H5 c with
      | none=>rfl
      | some o=>
       rw[sA _ _ (Wc _ _ (Nz.get ca q'))] at cA;cases cA
     have tC:Tp HC a (n+1102):=by
      obtain⟨u1,u2,u3,eu,rest⟩:=t3';exact⟨u1,u2,u3,frC _ _ eu (by simpa using Ne.symm y2a),rest⟩
     have sAC:aL HA HC:=fun c o e=>frC _ _ (s3 _ _ e) (by simp; intro z'; rw[z',fy] at e; cases e)
     have RG:SX a H5 HC:=Nz.trans (SX.of (Wc.trans (sA.trans sAC)));have s9C:=sA.trans sAC;have axC:=ax9.mono (aL.hid s9C);have abC:=ab9.mono (aL.hid s9C);refine Me.of (m:="stand") (R:=fun p=>_) YC' (fun _ _ _ _ _ _ _=>rfl) ?_;refine⟨ya,_,0,tx z,jR st,rfl,YC',OG.ok,rfl,rfl,fun v2 HD sD aD=>?_⟩;obtain⟨n1,n2,n3⟩:=Fy st;refine⟨jR st,jR st,aD,((abC.mono (aL.hid sD)).mono dW),n1,n1,n2,n2,n3,?_⟩;rw[SeqAt.eqv_refl _ n2,aV (by simp)]
     have ZQ:SX a H3 HD:=QG.trans (Yj.trans (RG.trans (SX.of sD)));have Ub:=ZQ.get la el;refine⟨ld,_,rfl,.inl (cV.of Ub),_,_,rfl,rfl,?_⟩;refine cD.of (tC.same sD) (by omega) (by rw[cT]; omega) (by rw[cT]; omega) fun hd HE h0 h1 tE sE=>?_
     have tD:=tC.same sD;have YD:=YC'.mono sD;have YE:=YD.keep (fun c xs z'=>sE.get (tD.neT z') z') (fun c hc o e=>sE.get (frn c hc).2 e);refine⟨by decide,fun tl HF Xo sF Vh=>⟨_,_,_,rfl,?_⟩⟩
     have YF:=YE.mono sF;have axF:=((axC.mono (aL.hid sD)).mono (aL.trans sE (aL.hid sF))).mono dW;have abF:=((abC.mono (aL.hid sD)).mono (aL.trans sE (aL.hid sF))).mono dW;have Ua:=sF _ _ (sE.get la Ub)
     have U_:ld∉ya.own:=fun z'=>by
      have:=(frn ld z').1;rw[(QG.trans Yj).get la el] at this; cases this
     have tlO:tl∉ya.own:=fun z'=>by
      obtain⟨o,e,_⟩:=YE.al tl z';rw[e] at Xo; cases Xo
     have W9:ld≠tl:=fun z'=>by rw[<- z',sE.get la Ub] at Xo; cases Xo
     have fin:∀H',Fr [ya.ds,ya.dt,ya.lp,tl] HF H'->SX a H H':=fun H' fr c o e=>by
      obtain⟨c1,c2⟩:=jM e;rw[cg c1];have c5:=(ZR.trans (QG.trans Yj)).get c1 c2;have cF:=sF _ _ (sE.get c1 (sD _ _ (RG.get c1 c5)));refine fr _ _ cF ?_
      have nO:∀w'∈ya.own,c≠w':=fun w' hw z'=>by
       have:=(frn w' hw).1;rw[<- z',c5] at this; cases this
      have ct:c≠tl:=fun z'=>by
       have:=sE.get c1 (sD _ _ (RG.get c1 c5));rw[z',Xo] at this; cases this
      simp only[d_,cW,or_false,not_or];exact⟨nO _ (by unfold Ya.own; simp),nO _ (by unfold Ya.own; simp),nO _ (by unfold Ya.own; simp),ct⟩
     rw[wM];walk_at "rd";refine EK.of Ua (fun i σ H'=>∃tv o12 o13 Yq,σ=[some (V.ref a),some (V.ref Yo),some (V.str (tx z)),some (V.ref ld),some sv,some (V.ref b),some (V.int (if x.lo>st.r+st.cs.sum then x.lo else st.r+st.cs.sum)),some (V.int tt),some (V.ref ya.p),some (V.int hd),some tv,some (V.ref tl),o12,o13,Yq,none]/\WkI C tt (tx z) x st ls HF ya tl hd i tv H') ⟨_,_,_,_,rfl,ya.eO,[0,0,0],[],[],YF,OG,rfl,?_,Vh,aa.nil,Fr.refl _ _,.inl ⟨by simpa using h0,rfl⟩⟩ ?_ ?_ ?_
     ·rw[Zi]; simp
     ·rintro i σ H' _ ⟨tv,_,_,_,_,eO,tl',pa,xs,YH,_,_,_,_,_,fr,_⟩;refine fr _ _ Ua ?_;simp only[d_,cW,or_false,not_or];exact⟨fun e=>U_ (by rw[e]; unfold Ya.own; simp),fun e=>U_ (by rw[e]; unfold Ya.own; simp),fun e=>U_ (by rw[e]; unfold Ya.own; simp),W9⟩
     ·rintro i v0 σ H4 p4 hx0 ⟨tv,o12,o13,Yq,rfl,wk⟩ f4;rw[dw] at hx0;obtain⟨c,hc,rfl⟩:=yw.mp hx0;obtain⟨eO,tl',pa,xs,Y4,Vo,hpa,fpl,Jg,Uo,Lz,tw⟩:=wk;have hi:i<ls.length:=(eN.mp hc).1;have s5:=aN f4 (HO.tup [V.int (i:Nat),.int c]);have e5:upd H4 p4 (HO.tup [V.int (i:Nat),.int c]) p4=some (.tup [V.int (i:Nat),.int c]):=aA;generalize upd H4 p4 (HO.tup [V.int (i:Nat),.int c])=H5' at s5 e5 ⊢;refine⟨p4,_,rfl,fW.of e5,rfl,?_⟩
      have frN:∀{G:Hp},aL H4 G->∀c',G c'=none->HF c'=none:=fun {G} sg c' e=>by
       cases q':HF c' with
       | none=>rfl
       | some o=>
        by_cases hS:c'∈[ya.ds,ya.dt,ya.lp,tl]
        ·exfalso
         have:∃o',H4 c'=some o':=by
          simp only[d_,cW,or_false] at hS;rcases hS with rfl | rfl | rfl | rfl
          ·obtain⟨o',e',_⟩:=Y4.al ya.ds (by unfold Ya.own; simp)
           exact⟨o',e'⟩
          ·obtain⟨o',e',_⟩:=Y4.al ya.dt (by unfold Ya.own; simp)
           exact⟨o',e'⟩
          ·obtain⟨o',e',_⟩:=Y4.al ya.lp (by unfold Ya.own; simp)
           exact⟨o',e'⟩
          ·exact⟨_,Jg⟩
         obtain⟨o',e'⟩:=this;rw[sg _ _ e'] at e; cases e
        ·rw[sg _ _ (Lz _ _ q' hS)] at e; cases e
      have Y5:=Y4.mono s5;walk_at "rd";refine nj.of (R:=fun σ H'=>∃Zz,σ=[some (V.ref a),some (V.ref Yo),some (V.str (tx z)),some (V.ref ld),some sv,some (V.ref b),some (V.int (if x.lo>st.r+st.cs.sum then x.lo else st.r+st.cs.sum)),some (V.int tt),some (V.ref ya.p),some (V.int hd),some Zz,some (V.ref tl),some (.int i),some (.int c),Yq,none]/\aL H5' H'/\TwC C HF H' ({ ya with eO:=eO }:Ya).own (fD tt (tx z) x (bC x st (ls.take i)) tl' pa) Zz (decide ((i:Int)<hd))) ?_ ?_
      ·rintro σ H6 ⟨Zz,rfl,s6,tw6⟩;have Y6:=Y5.mono s6;walk_at "rd";refine Me.of (a:={ ya with eO:=eO }) (m:="beat") (R:=fun p=>_) Y6 (fun _ _ _ _ _ _ _=>rfl) ?_
       refine Hj.of (R:=fun v H'=>∃l us cs,v=.ref l/\H6 l=none/\H' l=some (.lst us)/\aa H' (cs.map YW) us/\((cs=[]/\c=0)\/cs=[(tx z,c)])/\aL H6 H') ?_ ?_
       ·rintro v H7 ⟨l,us,cs,rfl,fl,el',au',hcs,s7⟩
        have hcm:vJ [tx z] cs=[c]:=by
         rcases hcs with⟨rfl,rfl⟩ | rfl
         ·exact Qj _
         ·exact Ml _ _
        obtain⟨bR,bY⟩:=KY (x:=x) (tl:=tl') (pa:=pa) Vo.hs hcm;have Y7:=Y6.mono s7;have Cw:=s5.trans (s6.trans s7);refine⟨{ ya with eO:=eO },_,l,us,cs,rfl,Y7,Vo.ok,el',au',?_,?_,by show pa.length<500; omega,?_,fun p m Rq H8 fm fp pm Y8 e8 a8 MT=>?_⟩
        ·rcases hcs with⟨rfl,rfl⟩ | rfl <;> simp
        ·rcases hcs with⟨rfl,rfl⟩ | rfl <;> simp[fD]
        ·intro z';obtain⟨o,e,_⟩:=Y6.al l z';rw[e] at fl; cases fl
        rw[bR] at a8;rw[bY] at Y8;have HQ:ya.ds∈({ ya with eO:=eO }:Ya).own/\ya.dt∈({ ya with eO:=eO }:Ya).own/\ya.lp∈({ ya with eO:=eO }:Ya).own:=by unfold Ya.own; simp
        have ZD:∀c'∈({ ya with eO:=eO }:Ya).own,c'≠tl:=fun c' hc' z'=>by
         unfold Ya.own at hc';rcases fC.mp hc' with h | h
         ·exact tlO (by unfold Ya.own; exact DG _ (by rw[<- z']; exact h))
         ·have:=fpl c' h;rw[z',Vh] at this; cases this
        have mF:=frN Cw m fm
        have Xp:∀{c':Addr} {o:HO},H7 c'=some o->c'∉({ ya with eO:=eO }:Ya).own->H8 c'=some o:=fun {c' o} e no=>MT _ _ e (by
         simp only[d_,cW,or_false,not_or]
         exact⟨fun z'=>no (by rw[z']; exact HQ.1),fun z'=>no (by rw[z']; exact HQ.2.1),fun z'=>no (by rw[z']; exact HQ.2.2)⟩)
        have Xa:fL H7 H8:=Y7.kp (MT.sub fun c' hc'=>.inl (by
         simp only[d_,cW,or_false] at hc';rcases hc' with rfl | rfl | rfl
         ·exact HQ.1
         ·exact HQ.2.1
         ·exact HQ.2.2))
        have LR:H8 tl=some (.lst xs):=Xp (Cw _ _ Jg) (fun z'=>ZD _ z' rfl);have XN:=aa.kp (Cw.kp.trans Xa) _ _ (fZ _) Uo
        have TV:Fr [ya.ds,ya.dt,ya.lp,tl] HF H8:=Lz.trans ((Cw.fr _).trans (MT.sub fun c' hc'=>.inl (by
         simp only[d_,cW,or_false] at hc' ⊢
         rcases hc' with h | h | h <;> simp[h])))
        have ptl:p≠tl:=fun z'=>by rw[z',Cw _ _ Jg] at fp; cases fp
        have pF:=frN Cw p fp;have lx:=Uo.length;rw[cT,qG,lH] at lx;have lx8:=a8.length;have hg:=take_snoc hc
        have rest:∀(HX:Hp) (Zy:V),bK C HX { ya with eO:=eO++[m] } (fD tt (tx z) x (dm x (bC x st (ls.take i)) c) (Cm tl' c (fH x (bC x st (ls.take i)) c) (c-dF x (bC x st (ls.take i)) c)) (pa++[[mY (tx z) x (bC x st (ls.take i)) c]]))->HX tl=some (.lst xs)->aa HX ((jH (tx z) x st (ls.take i)).map Aa) xs->aa HX ([mY (tx z) x (bC x st (ls.take i)) c].map Aa) Rq->Fr [ya.ds,ya.dt,ya.lp,tl] HF HX->TwC C HF HX ({ ya with eO:=eO++[m] }:Ya).own (fD tt (tx z) x (dm x (bC x st (ls.take i)) c) (Cm tl' c (fH x (bC x st (ls.take i)) c) (c-dF x (bC x st (ls.take i)) c)) (pa++[[mY (tx z) x (bC x st (ls.take i)) c]])) Zy (decide ((i:Int)<hd))->WkI C tt (tx z) x st ls HF ya tl hd (i+1) Zy (upd HX tl (.lst (xs++Rq))):=fun HX Zy YX tX aX bX fX twX=>by
         have kX:fL HX (upd HX tl (.lst (xs++Rq))):=fL.putL tX;have Vn:=Vo.next c (by omega)
         refine⟨eO++[m],Cm tl' c (fH x (bC x st (ls.take i)) c) (c-dF x (bC x st (ls.take i)) c),pa++[[mY (tx z) x (bC x st (ls.take i)) c]],xs++Rq,?_,?_,?_,?_,aA,?_,fX.trans (Fr.put (by simp)),?_⟩
         ·rw[hg,dD];refine YX.keep kX fun c' hc' o e=>?_;rw[aJ ?_]
          ·exact e
          ·intro z';unfold Ya.own at hc';rcases fC.mp hc' with h | h
           ·exact ZD c' (by unfold Ya.own; exact DG _ h) z'
           ·rcases fC.mp h with h | h
            ·exact ZD c' (by unfold Ya.own; exact gH _ h) z'
            ·rw[gF.mp h] at z';rw[z',Vh] at mF; cases mF
         ·rw[hg,dD]; exact Vn
         ·rw[dh,hpa]; rfl
         ·intro c' hc';rcases fC.mp hc' with h | h
          ·exact fpl c' h
          ·rw[gF.mp h]; exact mF
         ·rw[hg,pC,jK];exact aa.append (aa.kp kX _ _ (fZ _) aX) (aa.kp kX _ _ (fZ _) bX)
         ·rw[hg,dD];have ed:decide (((i+1:Nat):Int)<=hd)=decide ((i:Int)<hd):=decide_eq_decide.mpr (by omega)
          rw[ed];rcases twX with h | ⟨h1,tb,h2,h3,h4⟩
          ·exact .inl h
          ·refine .inr ⟨h1,tb,h2,h3.keep kX fun c' hc' o e=>?_,h4⟩;rw[aJ (fun z'=>by have:=(h4 c' hc').1; rw[z',Vh] at this; cases this)]
           exact e
        have smX:xs.length+Rq.length<=sizeLine:=pH (aW (by rw[lx8]; simp; omega))
        refine⟨trivial,?_⟩;rcases tw6 with⟨hb6,rfl⟩ | ⟨hb6,tb,rfl,YT6,U3⟩
        ·rw[aV (by simp)]
         exact⟨.inl ⟨rfl,_,cV.of LR⟩,tl,p,xs,Rq,rfl,rfl,LR,e8,smX,_,_,_,_,rfl,rest _ _ Y8 LR XN a8 TV (.inl ⟨hb6,rfl⟩)⟩
        ·rw[a_ (by simp)]
         have YT8:=(YT6.mono s7).keep Xa fun c' hc' o e=>Xp e (U3 c' hc').2;refine Me.of (m:="beat") (R:=fun p=>_) YT8 (fun _ _ _ _ _ _ _=>rfl) ?_;refine⟨by decide,fun p9' H9' f9' s9' e9'=>⟨by decide,fun pA HG fA sG eA=>?_⟩⟩
         have NZ:=s9'.trans sG;have YTG:=YT8.mono NZ;obtain⟨bR2,bY2⟩:=KY (x:=x) (tl:=tl') (pa:=pa) Vo.hs (Ml (tx z) c);refine⟨tb,_,pA,_,[(tx z,c)],rfl,YTG,Vo.ok,eA,aa.cons (At.tup (sG _ _ e9') (aa.cons (At.str _) (aa.cons (At.int _) aa.nil))) aa.nil,by simp,by simp[fD],by show pa.length<500; omega,?_,fun pB mB xsB HI Vd fpB pmB YTB eB aB frB=>?_⟩
         ·intro z';obtain⟨o,e,_⟩:=YT8.al pA z';rw[s9' _ _ e] at fA; cases fA
         rw[bR2] at aB;rw[bY2] at YTB;have Nv:tb.ds∈tb.own/\tb.dt∈tb.own/\tb.lp∈tb.own:=by unfold Ya.own; simp
         have SJ:∀{c':Addr} {o:HO},HG c'=some o->c'∉tb.own->HI c'=some o:=fun {c' o} e no=>frB _ _ e (by
          simp only[d_,cW,or_false,not_or]
          exact⟨fun z'=>no (by rw[z']; exact Nv.1),fun z'=>no (by rw[z']; exact Nv.2.1),fun z'=>no (by rw[z']; exact Nv.2.2)⟩)
         have kpG:fL HG HI:=YTG.kp (frB.sub fun c' hc'=>.inl (by
          simp only[d_,cW,or_false] at hc';rcases hc' with rfl | rfl | rfl
          ·exact Nv.1
          ·exact Nv.2.1
          ·exact Nv.2.2))
         have W_:=NZ.kp.trans kpG
         have pT:p∉tb.own:=fun z'=>by
          obtain⟨o,e,_⟩:=YT6.al p z';rw[s7 _ _ e] at fp; cases fp
         have mT:m∉tb.own:=fun z'=>by
          obtain⟨o,e,_⟩:=YT6.al m z';rw[s7 _ _ e] at fm; cases fm
         have tlT:tl∉tb.own:=fun z'=>by have:=(U3 tl z').1; rw[Vh] at this; cases this
         have epI:=SJ (NZ _ _ e8) pT;have T9:=SJ (NZ _ _ LR) tlT;have aI:=aa.kp W_ _ _ (fZ _) a8;obtain⟨m1,m2,m3⟩:=Ke (r:=mY (tx z) x (bC x st (ls.take i)) c) (J0 fun c' hc'=>by have:=gz'.g c' hc'; unfold Rf at this; omega)
         refine⟨.list ([mY (tx z) x (bC x st (ls.take i)) c].map Aa),.list ([mY (tx z) x (bC x st (ls.take i)) c].map Aa),At.lst eB aB,At.lst epI aI,m1,m1,m2,m2,m3,?_⟩;rw[SeqAt.eqv_refl _ m2,aV (by simp)]
         have WK:∀c'∈({ ya with eO:=eO++[m] }:Ya).own,c'∉tb.own:=fun c' hc' z'=>by
          unfold Ya.own at hc';rcases fC.mp hc' with h | h
          ·exact(U3 c' z').2 (by unfold Ya.own; exact DG _ h)
          ·rcases fC.mp h with h | h
           ·exact(U3 c' z').2 (by unfold Ya.own; exact gH _ h)
           ·rw[gF.mp h] at z'; exact mT z'
         have YI:=(Y8.mono NZ).keep kpG fun c' hc' o e=>SJ e (WK c' hc');refine⟨.inl ⟨rfl,_,cV.of T9⟩,tl,p,xs,Rq,rfl,rfl,T9,epI,smX,_,_,_,_,rfl,rest _ _ YI T9 (aa.kp W_ _ _ (fZ _) XN) aI ?_ (.inr ⟨hb6,{ tb with eO:=tb.eO++[mB] },rfl,YTB,fun c' hc'=>?_⟩)⟩
         ·intro c' o e nS;refine frB _ _ (NZ _ _ (TV _ _ e nS)) ?_
          have nt:∀w'∈tb.own,c'≠w':=fun w' hw z'=>by
           have:=(U3 w' hw).1;rw[<- z',e] at this; cases this
          simp only[d_,cW,or_false,not_or];exact⟨nt _ Nv.1,nt _ Nv.2.1,nt _ Nv.2.2⟩
         ·unfold Ya.own at hc'
          have hm:c'∈tb.own\/c'=mB:=by
           rcases fC.mp hc' with h | h
           ·exact .inl (by unfold Ya.own; exact DG _ h)
           ·rcases fC.mp h with h | h
            ·exact .inl (by unfold Ya.own; exact gH _ h)
            ·exact .inr (gF.mp h)
          rcases hm with h | rfl
          ·exact⟨(U3 c' h).1,fun z'=>WK c' z' h⟩
          ·refine⟨?_,fun z'=>?_⟩
           ·cases q':HF c' with
            | none=>rfl
            | some o=>
             exfalso;by_cases hS:c'∈[ya.ds,ya.dt,ya.lp,tl]
             ·have:∃o',H8 c'=some o':=by
               simp only[d_,cW,or_false] at hS;rcases hS with h | h | h | h
               ·obtain⟨o',e',_⟩:=Y8.al ya.ds (by unfold Ya.own; simp)
                exact⟨o',by rw[h]; exact e'⟩
               ·obtain⟨o',e',_⟩:=Y8.al ya.dt (by unfold Ya.own; simp)
                exact⟨o',by rw[h]; exact e'⟩
               ·obtain⟨o',e',_⟩:=Y8.al ya.lp (by unfold Ya.own; simp)
                exact⟨o',by rw[h]; exact e'⟩
               ·exact⟨_,by rw[h]; exact LR⟩
              obtain⟨o',e'⟩:=this;rw[NZ _ _ e'] at Vd; cases Vd
             ·rw[NZ _ _ (TV _ _ q' hS)] at Vd; cases Vd
           ·obtain⟨o,e,_⟩:=(Y8.mono NZ).al c' z';rw[e] at Vd; cases Vd
       ·intro N hN;walk_at "rd";by_cases c0:c=0
        ·rw[a_ (by simp[c0])]
         exact⟨by decide,fun p' H' f' s' e'=>hN _ _ ⟨p',[],[],rfl,f',e',aa.nil,.inl ⟨rfl,c0⟩,s'⟩⟩
        ·rw[aV (by simp[c0])]
         refine⟨by decide,fun p' H' f' s' e'=>⟨by decide,fun p'' qj f'' s'' e''=>hN _ _ ⟨p'',_,[(tx z,c)],rfl,?_,e'',aa.cons (At.tup (s'' _ _ e') (aa.cons (At.str _) (aa.cons (At.int _) aa.nil))) aa.nil,.inr rfl,s'.trans s''⟩⟩⟩
         cases q':H6 p'' with
         | none=>rfl
         | some o=>rw[s' _ _ q'] at f''; cases f''
      ·intro N hN;walk_at "rd";by_cases ih:(i:Int)=hd
       ·rw[a_ (by simp[ih])]
        refine Me.of (a:={ ya with eO:=eO }) (m:="twin") (R:=fun p=>_) Y5 (fun _ _ _ _ _ _ _=>rfl) ?_
        refine⟨{ ya with eO:=eO },_,rfl,Y5,Vo.ok,fun tb H6 Y6 fb s6=>hN _ _ ⟨.ref tb.p,rfl,s6,.inr ⟨by simp; omega,tb,rfl,Y6,fun c' hc'=>⟨frN s5 c' (fb c' hc'),fun z'=>?_⟩⟩⟩⟩
        obtain⟨o,e,_⟩:=Y5.al c' z';have:=fb c' hc';rw[e] at this; cases this
       ·rw[aV (by simpa using ih)]
        refine hN _ _ ⟨tv,rfl,aL.refl _,?_⟩;rcases tw with⟨h1,h2⟩ | ⟨h1,tb,h2,h3,h4⟩
        ·exact .inl ⟨by simp at h1 ⊢; omega,h2⟩
        ·exact .inr ⟨by simp at h1 ⊢; omega,tb,h2,h3.mono s5,h4⟩
     ·rintro σ H4 ⟨tv,o12,o13,Yq,rfl,wk⟩;rw[cT] at wk;obtain⟨eO,tl',pa,xs,YH,Vn,hpa,fpl,Jg,Uo,Lz,tw⟩:=wk;rw[nY] at YH Vn Uo
      have kF4:fL HF H4:=Lz.kp fun c hc us z'=>by
       simp only[d_,cW,or_false] at hc;rcases hc with rfl | rfl | rfl | rfl
       ·obtain⟨o,e,no⟩:=YF.al ya.ds (by unfold Ya.own; simp)
        rw[e] at z'; cases z'; exact no _ rfl
       ·obtain⟨o,e,no⟩:=YF.al ya.dt (by unfold Ya.own; simp)
        rw[e] at z'; cases z'; exact no _ rfl
       ·obtain⟨o,e,no⟩:=YF.al ya.lp (by unfold Ya.own; simp)
        rw[e] at z'; cases z'; exact no _ rfl
       ·rw[Vh] at z'; cases z'
      have axH:=At.kp kF4 _ _ (yz _) axF;have abH:=At.kp kF4 _ _ (mD _) abF
      have Qd:H4 ld=some (.lst (ls.map V.int)):=by
       refine Lz _ _ Ua ?_;simp only[d_,cW,or_false,not_or];exact⟨fun e=>U_ (by rw[e]; unfold Ya.own; simp),fun e=>U_ (by rw[e]; unfold Ya.own; simp),fun e=>U_ (by rw[e]; unfold Ya.own; simp),W9⟩
      have lxs:=Uo.length;rw[cT,qG] at lxs;have lpl:=qM x st ls;walk_at "rd";refine jf ((iI x st ls).map cY) (fun R hR=>by walk_at "rd"; exact hR) Jg (by rw[cT]; omega) (by omega) (tQ _) (fun i v0 d H' hv0 hd' s' R hR=>?_) fun acc us H5 f5 s5 e5 a5=>?_
      ·obtain⟨d',hd2,ad⟩:=(Uo.mono s').get hv0;rw[dw] at hd2;obtain⟨r,hr',rfl⟩:=yw.mp hd2;obtain⟨br,rfl,ebr⟩:=rw_shape ad;rw[<- wW (tx z),dw,dw,hr'] at hd';cases hd';walk_at "rd";refine⟨br,_,rfl,ebr,fun p' qj s'' e''=>hR _ _ s'' (At.tup (xs:=[.int r.d,.int r.a,.int r.h]) ?_ (cG [r.d,r.a,r.h]))⟩;rw[pX (by decide)] at e''
       exact e''
      have s45:=s5;refine⟨.ref Yo,.ref b,ld,x,st,ls,rfl,axH.mono s5,abH.mono s5,hx.is,sn.is,s5 _ _ Qd,by omega,fun pp xs6 H6 s6 f6 e6 a6=>?_⟩
      obtain⟨m1,m2,m3⟩:=Ef (iI x st ls);refine⟨.list ((iI x st ls).map cY),.list ((iI x st ls).map cY),At.lst (s6 _ _ e5) (a5.mono s6),At.lst e6 a6,m1,m1,m2,m2,m3,?_⟩;rw[SeqAt.eqv_refl _ m2,aV (by simp)]
      have ZW:=s5.trans s6;refine jf (ls.map .int) (fun R hR=>by walk_at "rd"; exact hR) (ZW _ _ Jg) (by rw[cT]; omega) (by omega) (iM _) (fun i v0 d H' hv0 hd' s' R hR=>?_) fun XQ us2 H7 f7 s7 e7 a7=>?_
      ·obtain⟨d',hd2,ad⟩:=(Uo.mono (ZW.trans s')).get hv0;rw[dw] at hd2;obtain⟨r,hr',rfl⟩:=yw.mp hd2;obtain⟨br,rfl,ebr⟩:=rw_shape ad;have hcm:((jH (tx z) x st ls).map (·.c))[i]?=some r.c:=by rw[dw,hr']; rfl
       rw[uz] at hcm;rw[dw,hcm] at hd';cases hd';walk_at "rd";exact Ix.tup ebr (aU (j:=1) rfl) (hR _ _ (aL.refl _) (At.int _))
      have Cw:=ZW.trans s7;obtain⟨i1,i2,i3⟩:=Ip ls;refine⟨.list (ls.map .int),.list (ls.map .int),At.lst e7 a7,At.lst (Cw _ _ Qd) (cG ls),i1,i1,i2,i2,i3,?_⟩;rw[SeqAt.eqv_refl _ i2,aV (by simp)]
      refine⟨.ref Yo,.ref b,ld,x,st,ls,rfl,axH.mono Cw,abH.mono Cw,hx.is,sn.is,Cw _ _ Qd,fun u8 H8 s8 a8=>?_⟩;have Y8:=YH.mono (Cw.trans s8);refine Me.of (a:={ ya with eO:=eO }) (m:="stand") (R:=fun p=>_) Y8 (fun _ _ _ _ _ _ _=>rfl) ?_
      refine⟨{ ya with eO:=eO },_,0,tx z,jR (bC x st ls),rfl,Y8,Vn.ok,rfl,rfl,fun v9 H9 s9 a9=>?_⟩
      obtain⟨j1,j2,j3⟩:=Fy (bC x st ls);refine⟨jR (bC x st ls),jR (bC x st ls),a9,a8.mono s9,j1,j1,j2,j2,j3,?_⟩;rw[SeqAt.eqv_refl _ j2,a_ rfl];have ZV:=Cw.trans (s8.trans s9);refine Me.of (a:={ ya with eO:=eO }) (m:="hands") (R:=fun p=>_) (YH.mono ZV) (fun _ _ _ _ _ _ _=>rfl) ?_
      refine⟨{ ya with eO:=eO },_,rfl,YH.mono ZV,Vn.ok,fun G6 yj=>?_⟩
      obtain⟨c8,d8,e8,rfl,k1,k2,_⟩:=mC (a8.mono (s9.trans yj));refine⟨_,_,_,_,_,_,_,rfl,rfl,k1,k2,rfl,_,rfl,?_⟩
      rw[a_ (by
       show decide (V.int (hnd (bC x st ls)+0)=V.int ((bC x st ls).r+(bC x st ls).cs.sum))=true;unfold hnd
       simp)]
      have Ym:=ZV.trans yj;refine Me.of (a:={ ya with eO:=eO }) (m:="beats") (R:=fun p=>_) (YH.mono Ym) (fun _ _ _ _ _ _ _=>rfl) ?_
      refine⟨{ ya with eO:=eO },_,rfl,YH.mono Ym,Vn.ok,ld,_,rfl,.inl (cV.of (Ym _ _ Qd)),rfl,?_⟩
      rw[nW (by
       show V.int ((pa.length:Nat):Int)=V.int _
       rw[hpa,cT])]
      exact q _ (fin _ (Lz.trans (Ym.fr _)))
    ·intro N hN;walk_at "rd";rcases hbv with⟨rfl,rfl⟩ | ⟨p,rfl,ebv⟩
     ·refine⟨trivial,?_⟩;rw[a_ (by decide)]
      exact hN _ _ ⟨.inl ⟨rfl,rfl,rfl⟩,aL.refl _⟩
     ·refine⟨trivial,?_⟩;rw[aV (by simp)]
      rw[<- ebv];exact⟨by decide,fun l HB fl sB el=>hN _ _ ⟨.inr ⟨l,rfl,el⟩,sB⟩⟩
   ·intro N hN;walk_at "rd";rcases hsv with rfl | ⟨p,st,rfl,sl,asv⟩
    ·refine⟨trivial,?_⟩;rw[a_ (by decide)]
     refine⟨pv,x,rfl,(ax3.mono QG).mono dW,fun u H5 s5 au=>?_⟩;refine hN _ _ ⟨u,lV x,rfl,.inl ⟨rfl,rfl⟩,?_,?_,?_,ZC.same s5,SX.of s5⟩
     ·have:=hx.lo;exact⟨this.1,rfl,by intro y hy; simp[lV] at hy; omega,rfl,by intro y hy; simp[lV] at hy; subst hy; rfl⟩
     ·have h1:=hx.lo;have h2:=hx.hi;show x.lo+_<=12;simp[lV];omega
     ·obtain⟨t1,t2,t3,et,_⟩:=ZC.same s5;exact At.BJ et _ _ (mD _) au
    ·refine⟨trivial,?_⟩;rw[aV (by simp)]
     exact hN _ _ ⟨_,st,rfl,.inr ⟨p,rfl,rfl⟩,sl.n,sl.sm,asv,ZC,SX.refl _ _⟩
  ·intro N hN;walk_at "rd";refine cD.of tp3 (by omega) (by decide) (by decide) fun d H4 d0 d1 t4 s4=>?_
   walk_at "rd";by_cases c0:d=0
   ·rw[a_ (by simp[c0])]
    refine⟨a,_,rfl,t4,by omega,fun p st H5 sl a5 t5 s5=>?_⟩
    exact hN _ _ ⟨_,rfl,.inr ⟨p,st,rfl,sl,a5⟩,t5.mono (by omega),s4.trans s5⟩
   ·rw[aV (by simp[c0])]
    exact hN _ _ ⟨_,rfl,.inl rfl,t4.mono (by omega),s4⟩
 ·intro N hN;walk_at "rd";refine cD.of tp (by omega) (by decide) (by decide) fun d H1 d0 d1 t1 s1=>?_
  walk_at "rd";by_cases c0:d=0
  ·rw[a_ (by simp[c0])]
   refine⟨a,_,rfl,t1,by omega,fun p x H2 hx a2 t2 s2=>?_⟩
   exact hN _ _ ⟨_,x,rfl,hx,a2,t2,s1.trans s2⟩
  ·rw[aV (by simp[c0])]
   refine⟨a,_,rfl,t1,by omega,fun p x H2 hx a2 t2 s2=>?_⟩
   exact hN _ _ ⟨_,x,rfl,hx,a2,t2,s1.trans s2⟩
def FP (K:PySem.W.Frag):Sp:=fun vs H Q _=>∃(p:Addr) (ns:List Int),vs=[.ref p]/\M8 K H p (ns.map V.int)/\ns.length<=63/\∀H',Q (.bl true) H'
theorem Ka:aR ["_law_script"] ["_law_script"] (aC uo):=(by walk_at "c")
theorem Sy (F:jh K "law" "law" uo f fd) (B:Bi mg) (Mq:Ct P w K mg base k "_law_tape" ["_law_script","_law_k"] (J2 K)) (Ew:Ct P w K mg base k "_law_walked" ["_law_tape_here"] V9):bD P w K mg base fY (k+1) f fd ["_law_script"] (FP K):=by
 refine F.ok Ka (by rintro vs H Q E ⟨p,ns,rfl,_⟩; rfl) (fun cdv A outer s H vs Q E hr h=>?_)
 obtain⟨p,ns,rfl,hS,hl,q⟩:=h;have ND:=Ka.nd;refine⟨_,(aH (aY (pb (mR rfl) B.all zW (ak (cP (N':=["_law_k","_law_script"]) (js:=[0]) rfl (dR (by rfl) B.range (ak (pb (fV rfl) B.max l_ (ak ao (ak (pb (fj rfl) B.min lZ (ak (pb (cX (K:=K) rfl) B.len eZ (ak (pv 0) aj)) (ak ao aj))) aj))) aj)) qt.mk1 rfl (by decide) rfl (fun fp s' H'=>(pf Ew hr (ak (pf Mq hr (ak (pv 1) (ak (pv 0) aj))) aj)))) aj)))),?_⟩
 walk_at "rd";rw[qu];walk_at "rd";refine⟨p,_,rfl,.inl hS.sq,_,_,rfl,?_⟩;rw[cT]
 obtain⟨n,hn,hn8⟩:∃n:Nat,(if(if(6:Int)<(ns.length:Int) then(6:Int) else(ns.length:Int))>2 then(if(6:Int)<(ns.length:Int) then(6:Int) else(ns.length:Int)) else 2)=(n:Int)/\n<=6:=by
  refine⟨(if(if(6:Int)<(ns.length:Int) then(6:Int) else(ns.length:Int))>2 then(if(6:Int)<(ns.length:Int) then(6:Int) else(ns.length:Int)) else 2).toNat,?_,?_⟩ <;> (split <;> split <;> omega)
 rw[hn];refine CK.of (n:=n) rfl (by omega) fun acc hacc=>?_
 refine⟨fun j zs H'=>zs=(List.replicate j true).map V.bl/\H' acc=some (.lst zs)/\M8 K H' p (ns.map V.int)/\aL H H',⟨rfl,aA,hS.same (aN hacc _),aN hacc _⟩,?_,?_⟩
 ·rintro j zs H2 hj ⟨rfl,c2,e2,s2⟩;show kI _ _ _ _ [some _,some (.ref p)] H2 _;walk_at "rd";refine⟨p,ns,_,rfl,e2.sq,by omega,by omega,fun a H3 f3 s3 t3=>?_⟩
  refine⟨a,0,rfl,t3,by decide,fun H4 s4=>?_⟩
  have k4:aL H2 H4:=fun b o hb=>by
   have ba:b≠a:=cC hb f3;exact s4.get ba (s3 _ _ hb)
  have s5:=(s2.trans k4).eV (o:=.lst ((List.replicate j true).map V.bl++[V.bl true])) hacc;refine⟨k4 _ _ c2,by rw[cT,qJ]; exact aW (by omega),?_,aA,hS.same s5,s5⟩
  rw[List.map_replicate,<- List.replicate_succ,List.replicate_succ']
 ·rintro zs H2 ⟨rfl,c2,e2,s2⟩;refine⟨acc,_,rfl,c2,?_⟩;have:(List.replicate n true).all id=true:=by simp
  rw[this];exact q H2
end
theorem Yb {us:List Value} {n:Nat} (h:us.length=n+1):∃a r,us=a::r/\r.length=n:=by
 cases us with
 | nil=>cases h
 | cons a r=>exact⟨a,r,rfl,Nat.succ.inj h⟩
theorem CP {us:List Value} (h:us.length=1):∃a,us=[a]:=by
 obtain⟨a,r,rfl,g⟩:=Yb h;cases List.length_eq_zero_iff.mp g;exact⟨a,rfl⟩
theorem Js {us:List Value} (h:us.length=2):∃a a0,us=[a,a0]:=by
 obtain⟨a,r,rfl,g⟩:=Yb h;obtain⟨a0,rfl⟩:=CP g;exact⟨a,a0,rfl⟩
theorem Hb {us:List Value} (h:us.length=3):∃a a0 a1,us=[a,a0,a1]:=by
 obtain⟨a,r,rfl,g⟩:=Yb h;obtain⟨a0,a1,rfl⟩:=Js g;exact⟨a,a0,a1,rfl⟩
theorem Zw {us:List Value} (h:us.length=4):∃a a0 a1 a2,us=[a,a0,a1,a2]:=by
 obtain⟨a,r,rfl,g⟩:=Yb h;obtain⟨a0,a1,a2,rfl⟩:=Hb g;exact⟨a,a0,a1,a2,rfl⟩
theorem all_mk {l:PySem.W.OpenLaw} {w:World} {K:PySem.W.Frag} {h:Heap} {mg:Str->Option Value} {fa:Addr} (X:K.In h) (G:h.Ns mainGlobals mg) (hfa:mg "law" = some (.ref fa))
  {f0:Addr} (e0:m9 K "is_name" qD f0)
  {f1:Addr} (e1:m9 K "wish" Dl f1)
  {f2:Addr} (e2:m9 K "rule_wish" lB f2)
  {f3:Addr} (e3:m9 K "row_says" nJ f3)
  {f4:Addr} (e4:m9 K "first_stand" jk f4)
  {f5:Addr} (e5:m9 K "hands_of" nP f5)
  {f6 T6:Addr} (e6:Ri K "beat" Dm f6 T6 12)
  {f7:Addr} (e7:m9 K "since_and_look" fP f7)
  {f8:Addr} (e8:m9 K "change_of" lC f8)
  {f9:Addr} (e9:m9 K "with_change" jj f9)
  {YL:Addr} (e10:m9 K "sent_home" lA YL)
  {f11:Addr} (e11:m9 K "check_posts" jl f11)
  {f12:Addr} (Q_:m9 K "check_least" jm f12)
  {f13:Addr} (Ue:m9 K "check_onward" iz f13)
  {f14:Addr} (e14:m9 K "check_stands" iy f14)
  {Xv:Addr} (Qe:m9 K "played" um Xv)
  {f16:Addr} (e16:m9 K "after" yh f16)
  {f17:Addr} (e17:m9 K "_law_tape" uq f17)
  {f18:Addr} (e18:m9 K "_law_draw" uw f18)
  {f19:Addr} (e19:m9 K "_law_units" qw f19)
  {f20:Addr} (e20:m9 K "_law_row" yg f20)
  {f21:Addr} (e21:m9 K "_law_rules" qz f21)
  {f22:Addr} (e22:m9 K "_law_post" ur f22)
  {f23:Addr} (e23:m9 K "_law_small_post" iw f23)
  {f24:Addr} (e24:m9 K "_law_stand" qy f24)
  {f25:Addr} (e25:m9 K "_law_names" qC f25)
  {f26:Addr} (e26:m9 K "_law_load" uv f26)
  {f27:Addr} (e27:m9 K "_law_walked" nM f27)
  {f28:Addr} (e28:m9 K "law" uo f28)
  {dG:Addr} (iR:Vs K "Yard" "Yard.__init__" fQ dG)
  (vY:cO K dG "total")
  (v_:cO K dG "order")
  (vZ:cO K dG "posts")
  (rW:cO K dG "onwards")
  (uV:cO K dG "stands")
  (rT:cO K dG "tallies")
  (yR:cO K dG "past")
  {m6:Addr} (m5:G7 K dG "check_names" "Yard.check_names" d9 m6)
  {wy:Addr} (wg:G7 K dG "stand" "Yard.stand" jo wy)
  {wz:Addr} (wj:G7 K dG "hands" "Yard.hands" jq wz)
  {pR:Addr} (pM:G7 K dG "post_beat" "Yard.post_beat" fB pR)
  {zp:Addr} (yZ:G7 K dG "beat" "Yard.beat" jX zp)
  {zm:Addr} (yX:G7 K dG "rows" "Yard.rows" jW zm)
  {zj:Addr} (yW:G7 K dG "told" "Yard.told" jV zj)
  {zg:Addr} (yV:G7 K dG "twin" "Yard.twin" jU zg)
  {wA:Addr} (wu:G7 K dG "beats" "Yard.beats" jr wA)
  (wH:PySem.W.nsIn K mainGlobals "beat_beats" = some (some (.ref f6)))
  (VD:Nb K "all")
  (xV:Nb K "isinstance")
  (Vv:Nb K "str")
  (Vz:Nb K "len")
  (Vy:Nb K "max")
  (Vx:Nb K "min")
  (Vu:Nb K "sum")
  (Rk:Nb K "list")
  (Cz:Nb K "reversed")
  (Nh:Nb K "range")
  (Ng:Nb K "tuple")
  (Ad:Nb K "enumerate")
  (Vw:Nb K "set")
  (VF:Nb K "abs")
  (VB:Nb K "int")
  (Rm:Nb K "dict")
  (Vt:Nb K "zip")
  {JL JK JH:Tok} (Pg:NT K "WHATS" [.str "come" JL,.str "done" JK,.str "wait" JH])
  (SQ:z7 K "OVER" "over")
  (Ph:z7 K "UNDER" "under")
  (S5:z7 K "EACH" "each")
  (Ij:z7 K "LETTERS" "abcdefghijklmnopqrstuvwxyz")
  (uX:Ni K "MOST_LETTERS" 8)
  (yU:Ni K "MOST_HANDS" 12)
  (uW:Ni K "TRIPLES_SEEN" 3)
  (yS:Ni K "MOST_POSTS" 5) :
  ∃fd:FuncData,(∀(s:Shared) (v:Value),BindsTo s fd ⟨[v],[]⟩ [("_law_script",v)])/\∀base:Heap,K.In base->base.Ns mainGlobals mg->bD l.prog w K mg base fY 9 fa fd ["_law_script"] (FP K):=by
 obtain⟨h0⟩:=e0.has X G (ps:=["thing"]) fun _ _ _ _ _ _ us hl=>by obtain⟨_,rfl⟩:=CP hl; rfl
 obtain⟨h1⟩:=e1.has X G (ps:=["post","hands","newest"]) fun _ _ _ _ _ _ us hl=>by obtain⟨_,_,_,rfl⟩:=Hb hl; rfl
 obtain⟨h2⟩:=e2.has X G (ps:=["rule","hands","newest"]) fun _ _ _ _ _ _ us hl=>by obtain⟨_,_,_,rfl⟩:=Hb hl; rfl
 obtain⟨h3⟩:=e3.has X G (ps:=["row","hands","newest"]) fun _ _ _ _ _ _ us hl=>by obtain⟨_,_,_,rfl⟩:=Hb hl; rfl
 obtain⟨h4⟩:=e4.has X G (ps:=["post"]) fun _ _ _ _ _ _ us hl=>by obtain⟨_,rfl⟩:=CP hl; rfl
 obtain⟨h5⟩:=e5.has X G (ps:=["stand"]) fun _ _ _ _ _ _ us hl=>by obtain⟨_,rfl⟩:=CP hl; rfl
 obtain⟨h6⟩:=e6.has X G (ps:=["post","stand","come","free"]) (fun _ _ _ _ _ _ _ us hl=>by
  rw[Ax] at hl;obtain⟨_,_,_,_,rfl⟩:=Zw hl
  exact⟨_,rfl,rfl⟩) fun _ _ _ _ _ _ _ us hl=>by
  obtain⟨_,_,_,rfl⟩:=Hb (Nat.succ.inj ((dh).symm.trans hl));exact⟨_,rfl,rfl⟩
 obtain⟨h7⟩:=e7.has X G (ps:=["post","since","rest"]) fun _ _ _ _ _ _ us hl=>by obtain⟨_,_,_,rfl⟩:=Hb hl; rfl
 obtain⟨h8⟩:=e8.has X G (ps:=["post","hands","newest","free"]) fun _ _ _ _ _ _ us hl=>by obtain⟨_,_,_,_,rfl⟩:=Zw hl; rfl
 obtain⟨h9⟩:=e9.has X G (ps:=["post","stand","change"]) fun _ _ _ _ _ _ us hl=>by obtain⟨_,_,_,rfl⟩:=Hb hl; rfl
 obtain⟨h10⟩:=e10.has X G (ps:=["ready","called","many"]) fun _ _ _ _ _ _ us hl=>by obtain⟨_,_,_,rfl⟩:=Hb hl; rfl
 obtain⟨h11⟩:=e11.has X G (ps:=["total","posts"]) fun _ _ _ _ _ _ us hl=>by obtain⟨_,_,rfl⟩:=Js hl; rfl
 obtain⟨h12⟩:=Q_.has X G (ps:=["total","posts"]) fun _ _ _ _ _ _ us hl=>by obtain⟨_,_,rfl⟩:=Js hl; rfl
 obtain⟨h13⟩:=Ue.has X G (ps:=["onward","behind"]) fun _ _ _ _ _ _ us hl=>by obtain⟨_,_,rfl⟩:=Js hl; rfl
 obtain⟨h14⟩:=e14.has X G (ps:=["total","posts","stands"]) fun _ _ _ _ _ _ us hl=>by obtain⟨_,_,_,rfl⟩:=Hb hl; rfl
 obtain⟨h15⟩:=Qe.has X G (ps:=["post","stand","load"]) fun _ _ _ _ _ _ us hl=>by obtain⟨_,_,_,rfl⟩:=Hb hl; rfl
 obtain⟨h16⟩:=e16.has X G (ps:=["post","stand","load"]) fun _ _ _ _ _ _ us hl=>by obtain⟨_,_,_,rfl⟩:=Hb hl; rfl
 obtain⟨h17⟩:=e17.has X G (ps:=["_law_script","_law_k"]) fun _ _ _ _ _ _ us hl=>by obtain⟨_,_,rfl⟩:=Js hl; rfl
 obtain⟨h18⟩:=e18.has X G (ps:=["_law_tape_here","_law_many"]) fun _ _ _ _ _ _ us hl=>by obtain⟨_,_,rfl⟩:=Js hl; rfl
 obtain⟨h19⟩:=e19.has X G (ps:=["_law_tape_here"]) fun _ _ _ _ _ _ us hl=>by obtain⟨_,rfl⟩:=CP hl; rfl
 obtain⟨h20⟩:=e20.has X G (ps:=["_law_tape_here","_law_small"]) fun _ _ _ _ _ _ us hl=>by obtain⟨_,_,rfl⟩:=Js hl; rfl
 obtain⟨h21⟩:=e21.has X G (ps:=["_law_tape_here","_law_small"]) fun _ _ _ _ _ _ us hl=>by obtain⟨_,_,rfl⟩:=Js hl; rfl
 obtain⟨h22⟩:=e22.has X G (ps:=["_law_tape_here"]) fun _ _ _ _ _ _ us hl=>by obtain⟨_,rfl⟩:=CP hl; rfl
 obtain⟨h23⟩:=e23.has X G (ps:=["_law_tape_here"]) fun _ _ _ _ _ _ us hl=>by obtain⟨_,rfl⟩:=CP hl; rfl
 obtain⟨h24⟩:=e24.has X G (ps:=["_law_tape_here"]) fun _ _ _ _ _ _ us hl=>by obtain⟨_,rfl⟩:=CP hl; rfl
 obtain⟨h25⟩:=e25.has X G (ps:=["_law_tape_here","_law_many"]) fun _ _ _ _ _ _ us hl=>by obtain⟨_,_,rfl⟩:=Js hl; rfl
 obtain⟨h26⟩:=e26.has X G (ps:=["_law_tape_here"]) fun _ _ _ _ _ _ us hl=>by obtain⟨_,rfl⟩:=CP hl; rfl
 obtain⟨h27⟩:=e27.has X G (ps:=["_law_tape_here"]) fun _ _ _ _ _ _ us hl=>by obtain⟨_,rfl⟩:=CP hl; rfl
 have wG:=(PySem.W.mg_of X G wH).trans ((PySem.W.mg_of X G e6.ns).symm.trans h6.m)
 obtain⟨Gz⟩:=iR.has X G (ps:=["self","total","posts","stands"]) (fun _ _ _ _ _ _ _ us hl=>by
  rw[Ax] at hl;obtain⟨_,_,_,_,rfl⟩:=Zw hl
  exact⟨_,rfl,rfl⟩) fun _ _ _ _ _ _ _ us hl=>by
  obtain⟨_,_,_,rfl⟩:=Hb (Nat.succ.inj ((dh).symm.trans hl));exact⟨_,rfl,rfl⟩
 have gw:ZY K dG:=⟨iR.c,vY,v_,vZ,rW,uV,rT,yR⟩;obtain⟨gM⟩:=m5.has (ps:=["self","names"]) fun _ _ _ _ _ _ us hl=>by obtain⟨_,_,rfl⟩:=Js hl; rfl
 obtain⟨lM⟩:=wg.has (ps:=["self","name"]) fun _ _ _ _ _ _ us hl=>by obtain⟨_,_,rfl⟩:=Js hl; rfl
 obtain⟨lN⟩:=wj.has (ps:=["self"]) fun _ _ _ _ _ _ us hl=>by obtain⟨_,rfl⟩:=CP hl; rfl
 obtain⟨iQ⟩:=pM.has (ps:=["self","name","come"]) fun _ _ _ _ _ _ us hl=>by obtain⟨_,_,_,rfl⟩:=Hb hl; rfl
 obtain⟨nH⟩:=yZ.has (ps:=["self","comes"]) fun _ _ _ _ _ _ us hl=>by obtain⟨_,_,rfl⟩:=Js hl; rfl
 obtain⟨nG⟩:=yX.has (ps:=["self"]) fun _ _ _ _ _ _ us hl=>by obtain⟨_,rfl⟩:=CP hl; rfl
 obtain⟨nF⟩:=yW.has (ps:=["self"]) fun _ _ _ _ _ _ us hl=>by obtain⟨_,rfl⟩:=CP hl; rfl
 obtain⟨nD⟩:=yV.has (ps:=["self"]) fun _ _ _ _ _ _ us hl=>by obtain⟨_,rfl⟩:=CP hl; rfl
 obtain⟨lO⟩:=wu.has (ps:=["self"]) fun _ _ _ _ _ _ us hl=>by obtain⟨_,rfl⟩:=CP hl; rfl
 have B:Bi mg:=⟨PySem.W.mg_none_of X G VD,PySem.W.mg_none_of X G xV,PySem.W.mg_none_of X G Vv,PySem.W.mg_none_of X G Vz,PySem.W.mg_none_of X G Vy,PySem.W.mg_none_of X G Vx,PySem.W.mg_none_of X G Vu,PySem.W.mg_none_of X G Rk,PySem.W.mg_none_of X G Cz,PySem.W.mg_none_of X G Nh,PySem.W.mg_none_of X G Ng,PySem.W.mg_none_of X G Ad,PySem.W.mg_none_of X G Vw,PySem.W.mg_none_of X G VF,PySem.W.mg_none_of X G VB,PySem.W.mg_none_of X G Rm,PySem.W.mg_none_of X G Vt⟩;have O:Co K mg:=⟨(let ⟨a,n,_,z,m⟩:=Pg; ⟨a,PySem.W.mg_of X G z,⟨_,m,rfl,rfl⟩,fun H=>.inr ⟨_,_,n,m,rfl,rfl,(by show 3<=sizeLine; decide),(.cons ⟨_,rfl⟩ (.cons ⟨_,rfl⟩ (.cons ⟨_,rfl⟩ .nil)))⟩⟩),SQ.gs X G,Ph.gs X G,S5.gs X G,Ij.gs X G,uX.gi X G,yU.gi X G,uW.gi X G,yS.gi X G⟩
 obtain⟨oc,od,an,sl,kV,dc,pm,cd,ct,ea,el,ec,ek0⟩:=e28;have e:=hfa.symm.trans (PySem.W.mg_of X G ea);cases e;refine⟨PySem.W.fnOf "law" "law" (bN uo) (bI uo) (aC uo) .none kV dc pm an cd ct,fun s v=>.of_eq rfl,fun base _ _=>?_⟩;have F:=Em (st:=uo) el ec ek0;have B_:=h17.ct l.prog w base (Ia (k:=0) h17.F B);have cR:=h18.ct l.prog w base (Ig (k:=0) h18.F B);have ie:=h19.ct l.prog w base (DW (k:=1) h19.F B (cR.mono (by decide)))
 have Ex:=h20.ct l.prog w base (K_ (k:=2) h20.F B (cR.mono (by decide)) (ie.mono (by decide)))
 have qe:=h21.ct l.prog w base (DY (k:=3) h21.F B (cR.mono (by decide)) (Ex.mono (by decide)))
 have Ca:=h22.ct l.prog w base (Ib (k:=4) h22.F B (cR.mono (by decide)) (ie.mono (by decide)) (qe.mono (by decide)))
 have qd:=h23.ct l.prog w base (rP (k:=4) h23.F B (cR.mono (by decide)) (qe.mono (by decide)))
 have zT:=h25.ct l.prog w base (D_ (k:=1) h25.F B (cR.mono (by decide)))
 have Cd:=h26.ct l.prog w base (Ie (k:=2) h26.F B (cR.mono (by decide)) (ie.mono (by decide)))
 have zR:=h24.ct l.prog w base (DX (k:=2) h24.F B (cR.mono (by decide)) (ie.mono (by decide)))
 have dB:=h4.ct l.prog w base (uO (k:=0) h4.F B);have bU:=h5.ct l.prog w base (Bs (k:=0) h5.F B);have dX:=h7.ct l.prog w base (pK (k:=0) h7.F);have oN:=h3.ct l.prog w base (Bq (k:=0) h3.F B O);have lX:=h2.ct l.prog w base (yO (k:=1) h2.F (oN.mono (by decide)))
 have Eu:=h1.ct l.prog w base (O_ (k:=2) h1.F B (lX.mono (by decide)))
 have jg:=h8.ct l.prog w base (yP (k:=3) h8.F B (Eu.mono (by decide)))
 have lW:=h10.ct l.prog w base (yN (k:=0) h10.F B);have gm:=h9.ct l.prog w base (uN (k:=1) h9.F B (lW.mono (by decide)))
 have aa8:=h6.ct l.prog w base (Gk (k:=4) h6.F B O (dX.mono (by decide)) (jg.mono (by decide)) (bU.mono (by decide)) (gm.mono (by decide)))
 have cI:=Jr.alias (h6.ct l.prog w base (Gk (k:=4) h6.F B O (dX.mono (by decide)) (jg.mono (by decide)) (bU.mono (by decide)) (gm.mono (by decide)))) wG
 have vC:=h15.ct l.prog w base (H_ (k:=5) h15.F B (cI.mono (by decide)))
 have zQ:=h16.ct l.prog w base (La (k:=5) h16.F B (cI.mono (by decide)))
 have qQ:=h0.ct l.prog w base (Ea (k:=0) h0.F B O);have iW:=h13.ct l.prog w base (rR (k:=0) h13.F);have jB:=h12.ct l.prog w base (uQ (k:=0) h12.F B);have jA:=h11.ct l.prog w base (uP (k:=1) h11.F B O (qQ.mono (by decide)) (iW.mono (by decide)) (jB.mono (by decide)))
 have iV:=h14.ct l.prog w base (rQ (k:=1) h14.F B (bU.mono (by decide)))
 have qR:=pL (k:=2) Gz.F B gw (jA.mono (by decide)) (dB.mono (by decide)) (iV.mono (by decide))
 have Mt:=Gz.ctE l.prog w base qR;have qT:=Mt.calm;have bO:=gM.ct iR.c l.prog w base (lJ (k:=0) gM.F B gw);have gq:=lM.ct iR.c l.prog w base (uR (k:=1) lM.F gw (bO.mono (by decide)))
 have dC:=lN.ct iR.c l.prog w base (uT (k:=1) lN.F B gw (bU.mono (by decide)))
 have fJ:=iQ.ct iR.c l.prog w base (oE (k:=5) iQ.F B O gw (dC.mono (by decide)) (cI.mono (by decide)))
 have ig:=nH.ct iR.c l.prog w base (vX (k:=6) nH.F B gw (bO.mono (by decide)) (fJ.mono (by decide)))
 have j7:=nG.ct iR.c l.prog w base (vW (k:=0) nG.F B gw);have j6:=nF.ct iR.c l.prog w base (vV (k:=0) nF.F B gw);have j5:=nD.ct iR.c l.prog w base (vU (k:=4) nD.F B gw (qT.mono (by decide)) (j7.mono (by decide)) (j6.mono (by decide)))
 have jC:=lO.ct iR.c l.prog w base (uU (k:=0) lO.F B gw);have wD:=h27.ct l.prog w base (Br (k:=7) h27.F B (cR.mono (by decide)) (Ca.mono (by decide)) (qd.mono (by decide)) (zT.mono (by decide)) (Cd.mono (by decide)) (zR.mono (by decide)) (dB.mono (by decide)) (bU.mono (by decide)) (vC.mono (by decide)) (zQ.mono (by decide)) (qT.mono (by decide)) (gq.mono (by decide)) (ig.mono (by decide)) (j5.mono (by decide)) (dC.mono (by decide)) (jC.mono (by decide)))
 exact Sy (k:=8) F B (B_.mono (by decide)) (wD.mono (by decide))
theorem walk {l:PySem.W.OpenLaw} {q:Program} {loose:List Str} {XP:(Str->Option Value)->Heap->Prop} {YP:World->Heap->Prop} {d:DefRec} {K:Params->PySem.W.Frag} (hn:l.most=some 63) (hdf:d.params.defaults=[])
  (hY:∀(w:World) (h:Heap),YP w h->(K w.params).In h)
  (F:∀(w:World) (mg:Str->Option Value) (fa:Addr) (h:Heap),(K w.params).In h->h.Ns mainGlobals mg->mg d.name=some (.ref fa) ->
   ∃fd:FuncData,(∀(s:Shared) (u:Value),BindsTo s fd ⟨[u],[]⟩ [("_law_script",u)])/\∀base:Heap,(K w.params).In base->base.Ns mainGlobals mg->bD l.prog w (K w.params) mg base fY 9 fa fd ["_law_script"] (FP (K w.params))) :
  PySem.W.WalkO q loose XP YP l.row.toRowW d [] (fun f vs=>PySem.call f vs):=
 L2.Nk (n:=63) (k:=9) (x:="_law_script") (CX:=fun _=>fY) (sp:=fun w=>FP (K w.params)) hn (by decide) hdf ⟨rfl,by decide,by decide,rfl⟩ hY F (fun _ _ a ns hl hO hS=>⟨a,ns,rfl,M8.of hS hO,hl,fun _=>rfl⟩) fun _ _ _ _ _ z=>z
end Zg
structure PySem.W.Fast:Prop where(tw15596064960197023444 tw17873924701906752602 tw3283332098693345466 tw14374901307101420352 tw17600214724590779754 tw13703271314254700316 tw9044175093019687764 tw622544348942714301 tw5087759796915646437 tw1566353879265162247 tw7867677882795872693 tw16416845933469170170 tw588192903049145318 tw15969418401573593541 tw7235281715917404981 tw11772600270664192640 tw9414243225569121639 tw7378485701422189951 tw650499474686339174 tw982599913301797465 tw5996002436122541877 tw12841014372780370396 tw12248245587285888641 tw10613567101300276370 tw16044457491089612485 tw18444965100516784065 tw7173395850843141446 tw17837789562546543367 tw7238506769149203622 tw12411411159042364743 tw16567674488244977394 tw10885676970816657170 tw16421120071808972092 tw9204585834022656986 tw17579802898926351719 tw16956945676525872060 tw11168149056662524711 tw10473934710616952967 tw14946214712450400998 tw927204801002658230 tw3526367818436583044 tw2265316379409728667 tw16982077142592251384 tw10576969445297892685 tw13685079141174152564 tw11824008972672036456 tw14402681437099686949 tw5247584013792784503 tw12100613788134198613 tw15041374964608507854 tw18034134708856894023 tw4878705874311115099 tw9064725274829488073 tw16970706483409138841 tw16288949553539336221 tw5551829405334315349 tw15952704268894368455 tw15205542280415536124 tw13121587525680555039 tw8325708547605412973 tw12407134317236449498 tw6563286632530723734 tw16452902474553159953 tw3212887071293005231 tw16014034551326593092 tw17746644592964506199 tw7248562720589683269 tw6647082330142372921 tw10651626379868022807 tw4284349970900756945 tw3964595927928621392 tw18111998478950732084 tw12085806476822788443 tw9983501305650592359 tw8996621979216533838 tw5779144377395504278 tw18210168624874654170 tw11202252818883671264 tw5393676889995674509 tw13877742890741439475 tw670087096998310618 tw11629401383951386896 tw6864640377899811483 tw14604760992158901738 tw8798717045813750873 tw4860271696397034425 tw1012288954854684637 tw17430067599289108325 tw11724791914189073930 tw5902851370658237150 tw5328584171479679329 tw14437559477071682272 tw12418813813552711903 tw4695529301603677602 tw15446403261987300121 tw12639763160643287789 tw3804597337225097206 tw18214041060973001559 tw6939576662062603881 tw8065292451583980207 tw1734134509459824369 tw11916175119714849719 tw12690978293021013048 tw5668289343606397575 tw15131404793283893490 tw2563691412640491652 tw5325269615975980723 tw11459268333998674872 tw5533418470908017764 tw8356480357689732351 tw11156875668700968727 tw13694235739954745019 tw2280580726906507234 tw357475674251142832 tw3274832412118945040 tw2360888381449034800 tw8964735738658040449 tw10731854941872751885 tw3161013258319890420 tw7026407658401460461 tw12091024604890613884 tw15917938744511919026 tw1429878220791744626 tw4417218394282926474 tw8241405364289053650 tw525143842081441710 tw7575758765509043539 tw5402784148661923905 tw14458834158750165298 tw15282073576455724447 tw2673142679623281613 tw1707132769436246862 tw3325114456092089755 tw18385461547574862834 tw17428473366571512398 tw8341376130210450123 tw5011183741783670351 tw4439549283431574535 tw893593400366416102 tw13281230655037395623 tw5089482071120383143 tw7122706905496546384 tw7448279763694633218 tw15925707031734796567 tw17565423340580259549 tw15716938554035364108 tw17778558453402545472 tw3015171112130853140 tw13097785451105860148 tw2856235867226352043 tw11790689971159644226 tw17913488777956653248 tw2060281664134910951 tw17098102500986498256 tw10762085096063998034 tw3293317992375863886 tw1221020917328493054 tw16072703423963970088 tw4651258225542481314 tw15456585616543734814 tw3764805555515784337 tw10661228268143000036 tw12813973158507380769 tw7502066014274735279 tw10785948466547451412 tw5511331278366373543 tw5276943671783754625 tw3170302189187930023 tw16698440358462056315 tw10251276395885728197 tw8027240469799158686 tw89726955757952010 tw12907576531413270468 tw14372327199162089261 tw11322732327324185961 tw3783328414481868381 tw10544712872304357274 tw2203241466502587823 tw10511339900700378300 tw14128094827190523909 tw16058709396593789801 tw3479677043147322561 tw6773699698214578355 tw428060197656900273 tw6223289889589500621 tw4629158256691277610 tw18252185487519825557 tw17700806791613269916 tw11969878535874236062 tw18147186179290663753 tw13592149123993422083 tw15745903871022799019 tw5146509510718582962 tw14777895082941733836 tw4791854183098221170 tw600566627309188502 tw1847903586472935873 tw8671929673269080152 tw8193638929603885190 tw9743273944089731754 tw17363314729331982573 tw14369966450985993352 tw3428752437272708807 tw3748918023371879007 tw7901107787762497445 tw5286902748131353372 tw7564312720506358941 tw6344078752995252001 tw15304706422883670653 tw13064006353619849002 tw8576965464967590583 tw829514084816934873 tw2888065004836981176 tw11775015765147562350 tw2397330190714757428 tw13284088606639345894 tw17136162730117637255 tw1543597248867714583 tw11437385248672238860 tw3924216843687275806 tw14294729188330325755 tw10514715055672469332 tw14680500747413603231 tw7091231370042148309 tw7992801405806630360 tw2506778761967020991 tw18063288068120903392 tw2148793383312157505 tw16187176840889907467 tw8618323741209911723 tw8169587649044908233 tw16028866204190594082 tw7180320533566169257 tw867148469747419149 tw17824752866424321347 tw835248062967412361 tw3410305104434414607 tw16483120049262718452 tw12771075331247535540 tw1270917980615123298 tw516088831642255896 tw9613408468793220556 tw11537177933794977482 tw13785899093506136021 tw8140391792660205424 tw1050585549897004255 tw5171725845241849772 tw12828815988655160958 tw12886831402760568230 tw17512563368761553276 tw14270229751143658247 tw14497433405980031467 tw13152147926728740791 tw2735902376489061560 tw10335935254829685568 tw14409886865411133567 tw10807991638669965450 tw3000558616485463824 tw12717860511105499964 tw2807862728923396146 tw11531518478325075814 tw18000592875578546561 tw2060382034257999942 tw11513516949233994707 tw9700504605282328249 tw16495856037686723552 tw8684754310105542750 tw14920885684045381851 tw8689414165176943268 tw2277347746555253198 tw10550095668407204389 tw3900184593179302842 tw17247562140668333554 tw7765694874543197560 tw11031356373001395969 tw9584349671793629950 tw3506494035687802229 tw4142612992284511522 tw13998921327949980993 tw12420256434650566349 tw6897471570371559839 tw16555982188314290558 tw9466105140410577691 tw9270531276011045456 tw4630279029469918806 tw2543083070287148899 tw12268049293275119680 tw7077987675118798011 tw7870465975842666309 tw1599097809770391319 tw9964333057950649482 tw12041193624562321894 tw4333122685952003227 tw14822017439914275715 tw2562554824390522851 tw9651419803927916993 tw5569208083773757735 tw10078158862919482367 tw14298388065538656966 tw4912082825813522995 tw13962005028367733678 tw16227256494182362366 tw14577123707154562329 tw15989520041248259745 tw13553117294067955311 tw5928552123974530111 tw3904540672070925376 tw16434386606920811946 tw8422589270285516152 tw4855626933842015603 tw6524003170174568430 tw16355468048995533595 tw8745950886905854774 tw17387776500143023836 tw10635699406165473679 tw17967897218955642881 tw18088635645798989790 tw6668781039717319162 tw6792227307135857050 tw7453892266259147372 tw2087227105091851737 tw9472709948572837950 tw7371684409486350546 tw10953663131626709297 tw6775079827314733431 tw1277775833566750399 tw11172424845316946946 tw10881116935825276903 tw10499981383958486902 tw10776267625472949295 tw7158155640768853526 tw6419963642632722126 tw12087731848458303636 tw4269937734728131791 tw8635445450051675847 tw14941837841122285518 tw15263663639561968193 tw10300349961975854784 tw18143229772211123726 tw7691492882715450491 tw12951938337292817252 tw10628544443433426220 tw18158614740778303534 tw10800910121713725906 tw15479859374755446861 tw4096397880712454639 tw6214516712475659179 tw10812306196977222247 tw7796457596673967778 tw5480904395747758422 tw17700376191380807449 tw11001597861811704689 tw2749959339639363464 tw15751128023950179550 tw11116286853935832412 tw5388580526493266742 tw16826978891024290652 tw15947175923950012238 tw916816254987391404 tw17123347751007645891 tw2337287379167470129 tw558593396005266905 tw16447617841636068985 tw2369572169253866293 tw17178438871136116452 tw12012336118934600340 tw13764999232115286203 tw2514674925935776379 tw9033998846052495268 tw2001027114702924188 tw13747138602827100482 tw7022491798917183259 tw3292705087727784232 tw8938475622408066769 tw11807131187369395045 tw5386307893761937742 tw8989738706741257423 tw1150409855375191338 tw13480490777038945829 tw16908593154076120258 tw4591678697105718460 tw17930705829472832741 tw5445601849008752037 tw7189224650903016369 tw14031243708342886407 tw11211520134951078734 tw9303385834147650056 tw5066111325014942341 tw4764895423160897302:True)
open PySem PySem.W PyProof.Rows
local macro_rules | `(tactic| walk_at "cle")=>`(tactic| (refine' L2.Vs.mk' ?a ?b ?c ?d ?e ?f ?g ?h ?i ?j ?k ?l ?m; (case a=>k_is); (case b=>k_is); (case c=>k_is); (case d=>k_is); (case e=>k_is); (case f=>k_is); (case g=>k_is); (case h=>k_is); (case i=>k_is); (case j=>k_is); (case k=>k_is); (case l=>k_is); (case m=>k_is)))
local macro_rules | `(tactic| walk_at "fc")=>`(tactic| (refine' L2.G7.mk' ?a ?b ?c ?d ?e; (case a=>k_is); (case b=>k_is); (case c=>k_is); (case d=>k_is); (case e=>k_is)))
local macro_rules | `(tactic| walk_at "fd")=>`(tactic| (refine' L2.Ri.mk ?a ?b ?c ?d ?e; (case a=>k_is); (case b=>k_is); (case c=>k_is); (case d=>k_is); (case e=>k_is)))
local macro_rules | `(tactic| walk_at "fn")=>`(tactic| (refine' L2.m9.mk ?a ?b ?c ?d; (case a=>k_is); (case b=>k_is); (case c=>k_is); (case d=>k_is)))
local macro_rules | `(tactic| walk_at "na")=>`(tactic| (unfold L2.cO; k_is))
local macro_rules | `(tactic| walk_at "nb")=>`(tactic| (unfold L2.Nb; k_is))
local macro_rules | `(tactic| walk_at "ni")=>`(tactic| (refine' L2.Ni.mk ?a; (case a=>k_is)))
local macro_rules | `(tactic| walk_at "ns")=>`(tactic| (refine' L2.z7.mk ?a; (case a=>k_is)))
local macro_rules | `(tactic| walk_at "nt")=>`(tactic| (refine' L2.NT.mk ?a ?b; (case a=>k_is); (case b=>k_is)))
set_option maxRecDepth 100000 in
set_option maxHeartbeats 0 in
theorem PySem.Challenge.cw_waithands_k39_yards_of_one_post_holds : PySem.Challenge.rw_waithands_k39_yards_of_one_post.Holds := by
 w_on; o_law; k_head; (case hw=>w_witness2)
 k_fill
 refine Zg.walk (l:=PySem.Challenge.rw_waithands_k39_yards_of_one_post) rfl rfl (fun w h Y=>PySem.W.kIn_of Y) ?F
 case F=>
  intro w mg fa h KX G hmg;refine' Zg.all_mk KX G hmg ?e0 ?e1 ?e2 ?e3 ?e4 ?e5 ?e6 ?e7 ?e8 ?e9 ?e10 ?e11 ?Q_ ?Ue ?e14 ?Qe ?e16 ?e17 ?e18 ?e19 ?e20 ?e21 ?e22 ?e23 ?e24 ?e25 ?e26 ?e27 ?e28 ?e29 ?e30 ?e31 ?e32 ?e33 ?e34 ?e35 ?YQ ?e37 ?e38 ?e39 ?e40 ?e41 ?e42 ?e43 ?e44 ?e45 ?e46 ?e47 ?e48 ?e49 ?e50 ?e51 ?e52 ?e53 ?e54 ?e55 ?e56 ?e57 ?e58 ?e59 ?e60 ?e61 ?e62 ?e63 ?e64 ?e65 ?e66 ?e67 ?e68 ?e69 ?e70 ?e71 ?e72
  case e0 | e1 | e2 | e3 | e4 | e5=>walk_at "fn"
  case e6=>walk_at "fd"
  case e7 | e8 | e9 | e10 | e11 | Q_ | Ue | e14 | Qe | e16 | e17 | e18 | e19 | e20 | e21 | e22 | e23 | e24 | e25 | e26 | e27 | e28=>walk_at "fn"
  case e29=>walk_at "cle"
  case e30 | e31 | e32 | e33 | e34 | e35 | YQ=>walk_at "na"
  case e37 | e38 | e39 | e40 | e41 | e42 | e43 | e44 | e45=>walk_at "fc"
  case e46=>k_is
  case e47 | e48 | e49 | e50 | e51 | e52 | e53 | e54 | e55 | e56 | e57 | e58 | e59 | e60 | e61 | e62 | e63=>walk_at "nb"
  case e64=>walk_at "nt"
  case e65 | e66 | e67 | e68=>walk_at "ns"
  case e69 | e70 | e71 | e72=>walk_at "ni"
