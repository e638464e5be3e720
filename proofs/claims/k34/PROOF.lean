import PyProof.Rows.All
import Wide.All
import OpenK.AllK
import Wide.FinOn
import Lean
import PyProof.EqAt
import PyProof.EqKinds
import PyProof.TupleCall
import PyProof.P3In
import PyProof.NeData
import KE.KMinKey
import PyProof.Rows.CallKwBuiltin
import PyProof.LayNew
import PyProof.EnumFor
import PyProof.EnumMake
import PyProof.EnumStmt
import KE.KRevIter
import KE.KRevSl
import PyProof.StationsW
import PyProof.RulesAs
import KE.KTryMore
import PyProof.Rows.TopTwo
import PyProof.NsDelKeeps
import PyProof.ExcArgsOwn
import KE.KIsAll
import PyProof.AutoListH
import PyProof.SetRoads
import PyProof.SetNew
import PyProof.ListRange
import PyProof.Rows.TupDisplay
import PyProof.Draws
import PyProof.ZipIter
import PyProof.TupleIter
import PyProof.AttrMissSeq
import KE.KDictOf
import PySem.Challenge.RW_waithands_k34_led_on
set_option Elab.async false
set_option linter.all false
set_option maxRecDepth 100000
abbrev AA:=PySem.Value
abbrev AB:=PySem.Shared
abbrev AC:=PySem.Program
section
open PySem
abbrev AD:List Str:=["row","hands","newest"]
abbrev AE:List Str:=["rule","hands","newest"]
abbrev AF:List Str:=["post","hands","newest"]
abbrev AG:List Str:=["post","hands","newest","free"]
abbrev AH:List Str:=["ready","called","many"]
abbrev AI:List Str:=["post","stand","change"]
abbrev AJ:List Str:=["post","stand","come","free"]
abbrev AK:List Str:=["_law_script","_law_k"]
abbrev AL:List Str:=["_law_tape_here","_law_many"]
abbrev AM:List Str:=["_law_tape_here"]
abbrev AN:List Str:=["_law_tape_here","_law_small"]
abbrev AO:List Str:=["total","posts"]
abbrev AQ:List Str:=["onward","behind"]
abbrev AR:List Str:=["total","posts","stands"]
abbrev AS:List Str:=["name","post","onward"]
abbrev AT:List Str:=["self","total","posts","stands"]
abbrev AU:List Str:=["self","names"]
abbrev AV:List Str:=["self","name"]
abbrev AW:List Str:=["self","name","onward"]
abbrev AX:List Str:=["_law_tape_here","_law_names_here"]
abbrev AY:List Str:=["_law_found","_law_due"]
abbrev AZ:List Str:=["_law_tape_here","_law_yard","_law_goals"]
abbrev Ap:List Str:=["_law_yard","_law_told","_law_goals","_law_comes_here","_law_waits"]
abbrev As:List Str:=["_law_name","_law_post_here","_law_onward"]
abbrev Au:List Str:=["_law_script"]
end
section
open PySem PySem.Spec PyProof.Rows
abbrev aL:=@wpAny_bind
abbrev cN:=@List.getElem?_eq_getElem
abbrev cU:=@Heap.get?_push_of_some
abbrev bZ:=@List.length_map
abbrev cD:=@List.getElem?_map
abbrev iI:=@List.getD_eq_getElem?_getD
abbrev dM:=@List.mem_singleton
abbrev fJ:=@lookup_relabel_local
abbrev bL:=@wpAny_pure
abbrev iW:=@List.getElem?_eq_some_iff
abbrev bc:=@Nat.le_refl
abbrev cI:=@Heap.get?_push_size
abbrev cF:=@List.length_append
abbrev bK:=@List.mem_cons
abbrev bI:=@Heap.lt_size
abbrev dN:=@List.mem_of_getElem?
abbrev dX:=@List.mem_cons_of_mem
abbrev aN:=@if_neg
abbrev eX:=@List.mem_cons_self
abbrev d_:=@List.size_toArray
abbrev aV:=@if_pos
abbrev iM:=@List.mem_append_right
abbrev fD:=@List.not_mem_nil
abbrev fC:=@List.length_cons
abbrev cZ:=@Nat.ne_of_lt
abbrev iK:=@Bool.false_ne_true
abbrev kZ:=@Heap.get?_update_other
abbrev gm:=@List.mem_append
abbrev gk:=@List.map_append
abbrev d9:=@List.mem_map
abbrev gf:=@Heap.size_push
abbrev iJ:=@List.length_take
abbrev eV:=@Nat.zero_le
abbrev j5:=@List.lookup_cons
abbrev jK:=@List.nodup_cons
abbrev pX:=@List.length_replicate
abbrev uy:=@List.getElem?_append_right
abbrev j4:=@decide_eq_false
abbrev nC:=@Nat.lt_of_lt_of_le
abbrev gF:=@wpAny_field
abbrev jk:=@List.map_cons
abbrev mV:=@List.take_length
abbrev jJ:=@Nat.le_trans
abbrev oY:=@List.all_eq_true
abbrev kY:=@wpAny_holding
abbrev ux:=@Heap.get?_update_self
abbrev qQ:=@wpAny_Call_Name_kw
abbrev yd:=@List.getElem?_append_left
abbrev mU:=@decide_eq_true
abbrev qP:=@wpAny_newObj_type
abbrev qO:=@List.nodup_append
abbrev oX:=@List.append_nil
abbrev qN:=@Int.toNat_natCast
abbrev yc:=@wpAny_callSpecial?_slot
abbrev pW:=@List.length_nil
abbrev oW:=@wpAny_seqItems
abbrev lK:=@Nat.le_of_lt
abbrev wy:=@List.mem_of_mem_take
abbrev jj:=@wpAny_mono
abbrev sO:=@wpAny_call_entry
abbrev sH:=@List.getElem_mem
abbrev pU:=@Nat.lt_irrefl
abbrev uw:=@List.length_drop
abbrev x_:=@Bool.false_eq_true
abbrev G8:=@List.drop_eq_getElem_cons
abbrev sG:=@List.sum_cons
abbrev wu:=@Int.emod_nonneg
abbrev Bk:=@Int.emod_lt_of_pos
abbrev Ea:=@List.mem_of_mem_drop
abbrev xZ:=@List.drop_length
abbrev Bj:=@of_decide_eq_true
abbrev Bh:=@Nat.lt_succ_of_lt
abbrev Bg:=@Nat.lt_succ_self
abbrev Lg:=@Option.isSome_iff_exists
abbrev uv:=@List.map_map
abbrev lJ:=@congrArg
abbrev D_:=@wpAny_truthy_bool
abbrev DY:=@wpAny_pyIter_list
abbrev Bf:=@List.nil_append
abbrev DX:=@Bool.and_eq_true
abbrev G6:=@wpAny_setField_rec
abbrev Lf:=@List.getElem?_eq_none
abbrev Pg:=@List.mem_or_eq_of_mem_set
abbrev DW:=@List.length_set
abbrev DR:=@List.forIn_cons
abbrev wj:=@wpAny_of_eq
abbrev xY:=@Nat.ne_of_gt
abbrev Le:=@List.getElem?_set_ne
abbrev G5:=@List.append_assoc
abbrev Be:=@wpAny_standAt
abbrev ur:=@wpAny_rule
abbrev Ld:=@List.replicate_succ
abbrev DQ:=@wpAny_setField
abbrev SQ:=@wpAny_typeNameOfWhole_keyiter
abbrev SN:=@List.drop_append_of_le_length
abbrev Bd:=@wpAny_typeOf
abbrev Lb:=@of_decide_eq_false
abbrev Pb:=@List.getElem?_set_self
abbrev zM:=@List.getElem?_drop
abbrev zL:=@Nat.le_of_succ_le
abbrev JB:=@List.idxOf_lt_length_of_mem
abbrev wC:=@wpAny_tryCatch
abbrev Es:=@List.mem_append_left
abbrev Er:=@List.getElem?_of_mem
abbrev Jz:=@Array.getElem?_eq_some_iff
abbrev zH:=@Nat.le_add_right
abbrev Jy:=@Array.getElem?_eq_getElem
abbrev Jx:=@wpAny_typeNameOf_keyiter
abbrev wB:=@List.any_cons
abbrev zE:=@wpAny_updateSeq
abbrev zx:=@Option.map_some
abbrev zu:=@List.find?_cons
abbrev Ep:=@wpAny_pyIter_tuple
abbrev tY:=@wpAny_letGo
abbrev Jw:=@wpAny_getItem_str_slice
abbrev tX:=@Nat.le_succ
abbrev Jv:=@List.getElem?_replicate
abbrev Ju:=@Option.map_eq_some_iff
abbrev wA:=@Nat.sub_self
abbrev Jt:=@List.take_of_length_le
abbrev wz:=@List.map_set
abbrev Eo:=@List.getElem?_set
abbrev zq:=@List.map_drop
abbrev En:=@wpAny_passesOwn
abbrev Em:=@wpAny_ite_split
abbrev El:=@wpAny_execs_nil
abbrev Ek:=@Nat.min_eq_left
abbrev Ej:=@List.of_mem_zip
abbrev Ei:=@List.mem_filter
abbrev Eh:=@Bool.eq_iff_iff
abbrev Js:=@Heap.SameBut.update
abbrev Jr:=@Array.length_toList
abbrev Eg:=@wpAny_bindName
abbrev Jq:=@Nat.lt_of_le_of_lt
abbrev Ef:=@List.forIn_nil
abbrev Pk:=@List.getElem?_eq_none_iff
abbrev Jp:=@wpAny_pyIter_enum
abbrev Jo:=@List.flatten_cons
abbrev zp:=@Int.le_refl
abbrev Ed:=@wpAny_attempt
abbrev Jm:=@wpAny_pyIter_zip
abbrev Pj:=@List.lookup_eq_none_iff
abbrev Jl:=@List.ext_getElem
abbrev Ph:=@wpAny_pyIter_rangeiter
abbrev Ec:=@Nat.lt_trans
abbrev Eb:=@List.sum_nil
end
set_option compiler.extract_closed false
theorem za(h:1=1:=by rfl):1=1:=h
theorem zb(h:1=1:=by decide):1=1:=h
theorem zc(h:1=1:=by intro _;rfl):1=1:=h
theorem zd(h:1=1:=by walk_at "h"):1=1:=h
theorem ze(h:1=1:=by exact ND):1=1:=h
theorem zf(h:1=1:=by walk_at "o"):1=1:=h
theorem zg(h:1=1:=by walk_at "l"):1=1:=h
theorem zh(h:1=1:=by decide +kernel):1=1:=h
theorem zi(h:1=1:=by exact fun _ _ z=>z):1=1:=h
local macro_rules | `(~~~$x)=>`(autoParam $x za._auto_1)
local macro_rules | `($x⁻¹)=>`(autoParam $x zb._auto_1)
local macro_rules | `(‹$x›)=>`(autoParam $x zc._auto_1)
open PySem.W (instObj methodObj Frag lookIn plainGet hasDictIn findIn handedIn plainGet_of isFn plainOver takerIn makesIn emptyDict specialIn keepIn mroIn kitOne kia_one kitx_none kitx_bool kitx_int kitx_str kitx_float kitx_list kitx_tuple kitx_dict kitx_own callWith_K methodCall_KW cellsFrom_some fnOf codeIn codeRec_of kitAny kia_tup excIn findObj subIn nsIn mg_of exmOne clsIn mg_none_of)
local macro_rules | `(tactic| walk_at "l")=>`(tactic| (rintro vs H Q E h; first | (obtain⟨_,h,_⟩:=h;subst h;rfl)|(obtain⟨_,_,h,_⟩:=h;subst h;rfl)|(obtain⟨_,_,_,h,_⟩:=h;subst h;rfl)|(obtain⟨_,_,_,_,h,_⟩:=h;subst h;rfl)|(obtain⟨_,_,_,_,_,h,_⟩:=h;subst h;rfl)|(obtain⟨_,_,_,_,_,_,h,_⟩:=h;subst h;rfl)|(obtain⟨_,_,_,_,_,_,_,h,_⟩:=h;subst h;rfl)|(obtain⟨_,_,_,_,_,_,_,_,h,_⟩:=h;subst h;rfl)|(obtain⟨_,_,_,_,_,_,_,_,_,h,_⟩:=h;subst h;rfl)|(obtain⟨_,_,_,_,_,_,_,_,_,_,h,_⟩:=h;subst h;rfl)|(obtain⟨_,_,_,_,_,_,_,_,_,_,_,h,_⟩:=h;subst h;rfl)|(obtain⟨_,_,_,_,_,_,_,_,_,_,_,_,h,_⟩:=h;subst h;rfl)))
local macro_rules | `(tactic| walk_at "o")=>`(tactic| first | exact Or.inl rfl | exact Or.inr rfl)
local macro_rules | `(tactic| walk_at "h")=>`(tactic| first | exact .inl rfl | exact .inr rfl | assumption)
local macro_rules | `(tactic| walk_at "v")=>`(tactic| first | exact Or.inl rfl | exact Or.inr (Or.inl rfl) | exact Or.inr (Or.inr rfl))
local macro_rules | `(tactic| omega)=>`(tactic| first | lia | omega (splitDisjunctions:=true))
local macro_rules | `(⋯)=>`(by decide)
local macro_rules | `(∅)=>`(by omega)
set_option hygiene false in
local macro_rules | `(tactic| symm)=>`(tactic| (refine .mk ?_;intro ae s σ H))
set_option hygiene false in
local macro_rules | `((0:))=>`(fun cdv A outer s H vs Q E hr h=>?_)
namespace _L
open PySem PySem.Spec PyProof.Rows
abbrev Key:=Sum Int Str
def zU:Key->AA->Bool
 | .inl k,v=>Value.isInt k v
 | .inr x,v=>Value.isStrOf x v
def adq(w:World):Key->Int
 | .inl k=>hashInt k
 | .inr x=>hashStr w x
theorem cO:∀{k:Key}{v:AA},zU k v=true->(∃i t,k=Sum.inl i/\v=Value.int i t)\/(∃x t,k=Sum.inr x/\v=Value.str x t)
 | .inl i,v,h=>by
  obtain⟨t,e⟩:=Value.isInt_shape (k:=i) (v:=v) h;exact .inl ⟨i,t,rfl,e⟩
 | .inr x,v,h=>by
  obtain⟨t,e⟩:=Value.isStrOf_shape (x:=x) (v:=v) h;exact .inr ⟨x,t,rfl,e⟩
theorem Mf(i:Int)(t:Tok):zU (.inl i) (.int i t)=true:=by simp[zU,Value.isInt]
theorem Ma(x:Str)(t:Tok):zU (.inr x) (.str x t)=true:=by simp[zU,Value.isStrOf]
theorem XF(a b:Int):decide ((Sum.inl a:Key)=Sum.inl b)=(a==b):=by
 by_cases e:a=b
 ·subst e; simp
 ·have h:¬(Sum.inl a:Key)=Sum.inl b:=fun q=>e (Sum.inl.inj q);rw[j4 h];exact(beq_eq_false_iff_ne.mpr e).symm
theorem Xz(a b:Str):decide ((Sum.inr a:Key)=Sum.inr b)=decide (a=b):=by
 by_cases e:a=b
 ·subst e; simp
 ·have h:¬(Sum.inr a:Key)=Sum.inr b:=fun q=>e (Sum.inr.inj q);rw[j4 h,j4 e]
theorem XD(a:Int)(b:Str):decide ((Sum.inl a:Key)=Sum.inr b)=false:=j4 (fun q=>nomatch q)
theorem XC(a:Str)(b:Int):decide ((Sum.inr a:Key)=Sum.inl b)=false:=j4 (fun q=>nomatch q)
def cB(prog:AC)(w:World):PySem.KeyKind prog w Key where
 is:=zU
 hash:=adq w
 inj:=fun v a b ha hb=>by
  rcases cO ha with⟨i,t,rfl,rfl⟩ | ⟨x,t,rfl,rfl⟩
  ·rcases cO hb with⟨j,u,rfl,e⟩ | ⟨y,u,rfl,e⟩
   ·injection e with e1 _; rw[e1]
   ·exact nomatch e
  ·rcases cO hb with⟨j,u,rfl,e⟩ | ⟨y,u,rfl,e⟩
   ·exact nomatch e
   ·injection e with e1 _; rw[e1]
 byValue:=fun k v h=>by
  rcases cO h with⟨i,t,rfl,rfl⟩ | ⟨x,t,rfl,rfl⟩ <;> rfl
 pyHash:=fun hv h=>by
  rcases cO hv with⟨i,t,rfl,rfl⟩ | ⟨x,t,rfl,rfl⟩
  ·exact wpAny_pyHash_int h
  ·exact wpAny_pyHash_str h
 eqBool:=fun hu hv h=>by
  rcases cO hu with⟨i,t,rfl,rfl⟩ | ⟨x,t,rfl,rfl⟩
  ·rcases cO hv with⟨j,u,rfl,rfl⟩ | ⟨y,u,rfl,rfl⟩
   ·rw[XF] at h; exact wpAny_eqBool_int h
   ·rw[XD] at h; exact SeqAt.EqAt.int_str i t y u _ _ _ _ h
  ·rcases cO hv with⟨j,u,rfl,rfl⟩ | ⟨y,u,rfl,rfl⟩
   ·rw[XC] at h; exact SeqAt.EqAt.str_int x t j u _ _ _ _ h
   ·rw[Xz] at h; exact wpAny_eqBool_str h
 «strs»:=fun k x t v h=>by
  rcases cO h with⟨i,u,rfl,e⟩ | ⟨y,u,rfl,e⟩
  ·exact nomatch e
  ·injection e with e1 _
   subst e1;cases v <;> rfl
theorem Fq(prog:AC)(w:World)(i:Int)(t:Tok):(cB prog w).is (.inl i) (.int i t)=true:=Mf i t
theorem Fp(prog:AC)(w:World)(x:Str)(t:Tok):(cB prog w).is (.inr x) (.str x t)=true:=Ma x t
inductive V where
 | non | bl (b:Bool) | int (i:Int) | str (x:Str) | M3 (b:Array UInt8) | flt (b:UInt64) | ref (a:Addr) | ty (n:String)
 deriving DecidableEq
def RelV:V->AA->Prop
 | .non,u=>u=Value.none
 | .bl b,u=>u=Value.bool b
 | .int i,u=>∃t,u=Value.int i t
 | .str x,u=>∃t,u=Value.str x t
 | .M3 b,u=>∃t,u=Value.bytes b t
 | .flt b,u=>∃t,u=Value.float b t
 | .ref a,u=>u=Value.ref a
 | .ty n,u=>u=Value.type n
abbrev Vals:List V->List AA->Prop:=Paired RelV
theorem Vals.length{xs:List V}{us:List AA}(r:Vals xs us):xs.length=us.length:=Paired.length r
theorem Vals.get:∀{xs:List V}{us:List AA}{i:Nat}{x:V},Vals xs us->xs[i]?=some x->∃u,us[i]?=some u/\RelV x u
 | _,_,_,_,.nil,e=>by simp at e
 | _,_,0,_,.cons r _,e=>by simp at e; subst e; exact⟨_,rfl,r⟩
 | _,_,i+1,x,.cons _ t,e=>by
  obtain⟨u,h1,h2⟩:=Vals.get (i:=i) (x:=x) t (by simpa using e)
  exact⟨u,by simpa using h1,h2⟩
theorem Vals.set{x:V}{u:AA}(r:RelV x u):∀{xs:List V}{us:List AA}(i:Nat),Vals xs us->Vals (xs.set i x) (us.set i u)
 | _,_,_,.nil=>.nil
 | _,_,0,.cons _ t=>.cons r t
 | _,_,i+1,.cons q t=>.cons q (Vals.set r i t)
theorem Vals.append:∀{xs ys:List V}{us ws:List AA},Vals xs us->Vals ys ws->Vals (xs++ys) (us++ws)
 | _,_,_,_,.nil,s=>s
 | _,_,_,_,.cons r t,s=>.cons r (Vals.append t s)
theorem Vals.take:∀{xs:List V}{us:List AA}(n:Nat),Vals xs us->Vals (xs.take n) (us.take n)
 | _,_,0,_=>.nil
 | _,_,_+1,.nil=>.nil
 | _,_,n+1,.cons r t=>.cons r (Vals.take n t)
theorem Vals.drop:∀{xs:List V}{us:List AA}(n:Nat),Vals xs us->Vals (xs.drop n) (us.drop n)
 | _,_,0,r=>r
 | _,_,_+1,.nil=>.nil
 | _,_,n+1,.cons _ t=>Vals.drop n t
def mW:Option V->Option AA->Prop
 | some v,some u=>RelV v u
 | none,none=>True
 | _,_=>False
def KV{κ:Type}:List (κ×V)->List (κ×AA)->Prop:=Paired fun(p:κ×V)(q:κ×AA)=>p.1=q.1/\RelV p.2 q.2
def kV:Key->V
 | .inl i=>.int i
 | .inr x=>.str x
inductive HO where
 | lst (xs:List V)
 | tup (xs:List V)
 | dK (kvs:List (Key×V)) | dT (kvs:List (List Key×V))
 | set (S:Int->Bool) (n:Nat)
 | ins (C dx:Addr) (fs:List (Str×V))
 | own (x:Addr)
 | xd (fs:List (Str×V))
 | met (f x:Addr)
 | YG (lo hi:Int)
 | kE (o:Obj) (u:HO)
 | Vg (ps:Array AA)
 | ext (φ:Heap->Prop)
abbrev Hp:=Addr->Option HO
def upd(H:Hp)(a:Addr)(o:HO):Hp:=fun b=>if b=a then some o else H b
theorem aB{H:Hp}{a:Addr}{o:HO}:upd H a o a=some o:=by unfold upd; rw[aV rfl]
theorem aC{H:Hp}{a b:Addr}{o:HO}(h:b≠a):upd H a o b=H b:=by unfold upd; rw[aN h]
theorem uO{H:Hp}{a:Addr}{o u:HO}:upd (upd H a o) a u=upd H a u:=by
 funext b; unfold upd; split <;> rfl
theorem aaK{H:Hp}{a b:Addr}{o u:HO}(h:H a=some o)(h':H b=some u)(d:o≠u):a≠b:=by
 intro e; subst e; rw[h] at h'; exact d (Option.some.inj h')
theorem cC{H:Hp}{a b:Addr}{o:HO}(h:H a=some o)(h':H b=none):a≠b:=by
 intro e; subst e; rw[h] at h'; cases h'
section
variable(P:AC)(w:World)
def bM(H:Hp)(h:Heap)(a:Addr):HO->Prop
 | .lst xs=>xs.length<=sizeLine/\∃(its:List AA)(n:Nat),Vals xs its/\h.get? a=some { cls:=.type "list",data:=.seq its.toArray n }
 | .tup xs=>xs.length<=sizeLine/\∃its:List AA,Vals xs its/\IsTup h a its.toArray
 | .dK kvs=>kvs.length<=sizeLine/\(a==sysModules)=false/\∃vs,KV kvs vs/\h.DictOf (cB P w) a vs
 | .dT kvs=>kvs.length<=sizeLine/\(a==sysModules)=false/\∃xs:List (List Key×Addr×AA),
   Paired (fun(p:List Key×V)(q:List Key×Addr×AA)=>p.1=q.1/\H q.2.1=some (.tup (p.1.map kV))/\RelV p.2 q.2.2) kvs xs /\
   ∃o es ep,h.get? a=some o/\o.ExactDict/\o.data=.dict es ep/\es.toList=xs.map (entryOfKey (tupleKind (cB P w)))/\(xs.map (·.1)).Nodup
 | .set S n=>h.SetOf (intKind P w) a S n
 | .ins C dx fs=>H dx=some (.own a)/\fs.length<=1000/\dx≠a/\h.get? a=some (instObj C dx) /\
   ∃mA,h.Ns1 dx mA/\(∀f,mW (fs.lookup f) (mA f))/\PySem.Within mA (fs.map (·.1))
 | .own _=>∃o,h.get? a=some o
 | .xd fs=>∃mA,h.Ns1 a mA/\∀f,mW (fs.lookup f) (mA f)
 | .YG lo hi=>∃t u v,h.get? a=some { cls:=.type "range",data:=.fields #[.int lo t,.int hi u,.int 1 v] }
 | .kE o u=>h.get? a=some o/\bM H h a u
 | .Vg ps=>h.get? a=some { cls:=.none,data:=.fields ps }
 | .met f x=>h.get? a=some (methodObj (.ref f) (.ref x))
 | .ext φ=>φ h/\(∃o,h.get? a=some o)/\∀h1 h2:Heap,φ h1->(∀o,h1.get? a=some o->h2.get? a=some o)->φ h2
def jT(H:Hp)(h:Heap):Prop:=∀a o,H a=some o->bM P w H h a o
end
section
variable{P:AC}{w:World}{H H':Hp}{h h':Heap}{a:Addr}{o:HO}
theorem bM.lt(x:bM P w H h a o):a<h.objs.size:=by
 cases o with
 | lst xs=>obtain⟨_,_,_,_,e⟩:=x; exact bI e
 | tup xs=>obtain⟨_,_,_,p⟩:=x; exact p.lt
 | dK kvs=>obtain⟨_,_,_,_,o,_,_,e,_⟩:=x; exact bI e
 | dT kvs=>obtain⟨_,_,_,_,o,_,_,e,_⟩:=x; exact bI e
 | set S n=>obtain⟨o,_,_,_,e,_⟩:=x; exact bI e
 | ins C dx fs=>obtain⟨_,_,_,e,_⟩:=x; exact bI e
 | own y=>obtain⟨_,e⟩:=x; exact bI e
 | xd fs=>obtain⟨_,⟨_,_,_,e,_⟩,_⟩:=x; exact bI e
 | YG lo hi=>obtain⟨_,_,_,e⟩:=x; exact bI e
 | kE ob u=>obtain⟨e,_⟩:=x; exact bI e
 | Vg ps=>exact bI (show h.get? a=some _ from x)
 | met f y=>exact bI (show h.get? a=some _ from x)
 | ext φ=>obtain⟨_,⟨_,e⟩,_⟩:=x; exact bI e
theorem Paired.Xq{α β:Type}{F G:α->β->Prop}:∀{l₁:List α} {l₂:List β},Paired F l₁ l₂->(∀a b,F a b->G a b)->Paired G l₁ l₂
 | _,_,.nil,_=>.nil
 | _,_,.cons r t,f=>.cons (f _ _ r) (Paired.Xq t f)
theorem bM.stay(x:bM P w H h a o)(k:∀b u,(b=a\/H b=some (.own a))->h.get? b=some u->h'.get? b=some u)
  (ho:∀b,H b=some (.own a)->H' b=some (.own a)) (ht:∀b xs,H b=some (.tup xs)->H' b=some (.tup xs)):bM P w H' h' a o:=by
 induction o with
 | lst xs=>obtain⟨z,its,n,r,e⟩:=x; exact⟨z,its,n,r,k _ _ (.inl rfl) e⟩
 | tup xs=>obtain⟨z,its,r,ob,e,c⟩:=x; exact⟨z,its,r,ob,k _ _ (.inl rfl) e,c⟩
 | dK kvs=>obtain⟨z,y,vs,r,ob,es,ep,e,c⟩:=x; exact⟨z,y,vs,r,ob,es,ep,k _ _ (.inl rfl) e,c⟩
 | dT kvs=>
  obtain⟨z,y,xs,r,ob,es,ep,e,c⟩:=x;exact⟨z,y,xs,Paired.Xq r fun p q z=>⟨z.1,ht _ _ z.2.1,z.2.2⟩,ob,es,ep,k _ _ (.inl rfl) e,c⟩
 | set S n=>obtain⟨ob,es,ep,t,e,c⟩:=x; exact⟨ob,es,ep,t,k _ _ (.inl rfl) e,c⟩
 | ins C dx fs=>
  obtain⟨d,z,ne,e,mA,⟨od,es,ep,e2,c⟩,r⟩:=x;exact⟨ho _ d,z,ne,k _ _ (.inl rfl) e,mA,⟨od,es,ep,k _ _ (.inr d) e2,c⟩,r⟩
 | own y=>obtain⟨ob,e⟩:=x; exact⟨ob,k _ _ (.inl rfl) e⟩
 | xd fs=>obtain⟨mA,⟨od,es,ep,e,c⟩,r⟩:=x; exact⟨mA,⟨od,es,ep,k _ _ (.inl rfl) e,c⟩,r⟩
 | YG lo hi=>obtain⟨t,u,v,e⟩:=x; exact⟨t,u,v,k _ _ (.inl rfl) e⟩
 | kE ob u ih=>obtain⟨e,q⟩:=x; exact⟨k _ _ (.inl rfl) e,ih q⟩
 | Vg ps=>
  have e:h.get? a=some { cls:=.none,data:=.fields ps }:=x;show h'.get? a=some { cls:=.none,data:=.fields ps };exact k a _ (.inl rfl) e
 | met f y=>
  have e:h.get? a=some (methodObj (.ref f) (.ref y)):=x;show h'.get? a=some (methodObj (.ref f) (.ref y));exact k a _ (.inl rfl) e
 | ext φ=>obtain⟨p,⟨o,e⟩,st⟩:=x; exact⟨st _ _ p fun o q=>k _ _ (.inl rfl) q,⟨o,k _ _ (.inl rfl) e⟩,st⟩
theorem jT.lt(x:jT P w H h)(e:H a=some o):a<h.objs.size:=(x a o e).lt
theorem jT.fresh(x:jT P w H h)(e:h.objs.size<=a):H a=none:=by
 cases q:H a with
 | none=>rfl
 | some u=>exact absurd (nC (x.lt q) e) (pU _)
theorem jT.kept(x:jT P w H h)(k:∀b u,h.get? b=some u->h'.get? b=some u):jT P w H h':=fun a o e=>
 (x a o e).stay (fun b u _ q=>k b u q) (fun _ q=>q) fun _ _ q=>q
theorem jT.laid(x:jT P w H h)(k:∀b u,h.get? b=some u->h'.get? b=some u)(hp:h.objs.size<=a)(new:bM P w (upd H a o) h' a o):jT P w (upd H a o) h':=fun b u e=>by
 have hn:=x.fresh hp;by_cases hb:b=a
 ·subst hb; rw[aB] at e; cases e; exact new
 ·rw[aC hb] at e;exact(x b u e).stay (fun c v _ q=>k c v q) (fun c q=>by rw[aC (cC q hn)]; exact q) fun c xs q=>by rw[aC (cC q hn)]; exact q
end
def Rd(H:Hp)(a:Addr)(u:HO):Prop:=H a=some u\/∃o,H a=some (.kE o u)
theorem Rd.ok{P:AC}{w:World}{H:Hp}{h:Heap}{a:Addr}{u:HO}(r:Rd H a u)(x:jT P w H h):bM P w H h a u:=by
 rcases r with r | ⟨o,r⟩
 ·exact x a u r
 ·obtain⟨_,q⟩:=x a _ r;exact q
def Mut:Option HO->Prop
 | some (.lst _)=>True
 | some (.dK _)=>True
 | some (.dT _)=>True
 | some (.set _ _)=>True
 | some (.ins _ _ _)=>True
 | some (.ext _)=>True
 | _=>False
section
variable{P:AC}{w:World}{H:Hp}{h h':Heap}{x e:Addr}{o':HO}
theorem jT.write(ok:jT P w H h)(mu:Mut (H x))(he:e=x\/H e=some (.own x))(k:∀b u,b≠e->h.get? b=some u->h'.get? b=some u)(heo:∃u,h'.get? e=some u)
  (new:bM P w (upd H x o') h' x o'):jT P w (upd H x o') h':=fun b u q=>by
 have aaH:∀c y,H c=some (.own y)->c≠x:=fun c y r z=>by subst z; rw[r] at mu; exact mu
 have adi:∀c xs,H c=some (.tup xs)->c≠x:=fun c xs r z=>by subst z; rw[r] at mu; exact mu
 by_cases hb:b=x
 ·subst hb; rw[aB] at q; cases q; exact new
 ·rw[aC hb] at q;by_cases hbe:b=e
  ·have q':H b=some (.own x):=by
    rcases he with z | z
    ·exact absurd (hbe.trans z) hb
    ·rw[hbe]; exact z
   rw[q] at q'; cases q';obtain⟨v,hv⟩:=heo;exact⟨v,by rw[hbe]; exact hv⟩
  ·refine(ok b u q).stay (fun c v hc r=>k c v ?_ r) (fun c r=>by rw[aC (aaH c b r)]; exact r) fun c xs r=>by rw[aC (adi c xs r)]; exact r
   rcases hc with rfl | hc
   ·exact hbe
   ·rintro rfl;rcases he with z | z
    ·exact aaH c b hc z
    ·rw[hc] at z; cases z; exact hb rfl
end
structure Un(fs ex:List Addr)(H H':Hp)(h h':Heap):Prop where
 keep:∀b o,h.get? b=some o->H b=none->b∉fs->b∉ex->h'.get? b=some o
 slot:∀b o,h.get? b=some o->H b=none->b∈fs->b∉ex->∃sl,h'.get? b=some { o with slots:=sl }
 free:∀b o,h.get? b=some o->H b=none->b∉ex->H' b=none
 there:∀b o,h.get? b=some o->b∉ex->∃o',h'.get? b=some o'
 tups:∀b xs,H b=some (.tup xs)->H' b=some (.tup xs)
 uM:∀b o u,H b=some (.kE o u)->H' b=some (.kE o u)
 xV:∀b ps,H b=some (.Vg ps)->∃more,H' b=some (.Vg (ps++more))
section
variable{fs fs' ex ex':List Addr}{H H1 H2:Hp}{h h1 h2 h':Heap}{a x e:Addr}{o:HO}
theorem Un.any(u:Un fs ex H H1 h h1){b:Addr}{ob:Obj}(q:h.get? b=some ob)(n:H b=none)(hx:b∉ex):∃sl,h1.get? b=some { ob with slots:=sl }:=by
 by_cases hb:b∈fs
 ·exact u.slot b ob q n hb hx
 ·exact⟨ob.slots,u.keep b ob q n hb hx⟩
theorem Un.kept(k:∀b u,h.get? b=some u->h'.get? b=some u):Un fs ex H H h h':=
 ⟨fun b ob q _ _ _=>k b ob q,fun b ob q _ _ _=>⟨ob.slots,k b ob q⟩,fun _ _ _ n _=>n,fun b ob q _=>⟨ob,k b ob q⟩,fun _ _ q=>q,fun _ _ _ q=>q,fun _ ps q=>⟨#[],by rw[q]; simp⟩⟩
theorem Un.refl:Un fs ex H H h h:=Un.kept fun _ _ q=>q
theorem Un.laid(k:∀b u,h.get? b=some u->h'.get? b=some u)(hp:h.objs.size<=a)(hn:H a=none):Un fs ex H (upd H a o) h h' where
 keep:=fun b u q _ _ _=>k b u q
 slot:=fun b u q _ _ _=>⟨u.slots,k b u q⟩
 free:=fun b u q n _=>by rw[aC (cZ (nC (bI q) hp))]; exact n
 there:=fun b u q _=>⟨u,k b u q⟩
 tups:=fun b xs q=>by rw[aC (cC q hn)]; exact q
 uM:=fun b u xs q=>by rw[aC (cC q hn)]; exact q
 xV:=fun b ps q=>⟨#[],by rw[aC (cC q hn),q]; simp⟩
theorem Un.write(mu:Mut (H x))(he:e=x\/H e=some (.own x))(k:∀b u,b≠e->h.get? b=some u->h'.get? b=some u)(heo:∃u,h'.get? e=some u):Un fs ex H (upd H x o) h h':=by
 have hx:∀b,H b=none->b≠x:=fun b n z=>by subst z; rw[n] at mu; exact mu
 have hb:∀b,H b=none->b≠e:=fun b n z=>by
  subst z;rcases he with r | r
  ·exact hx b n r
  ·rw[n] at r; cases r
 have hm:∀b u,H b=some u->¬Mut (some u)->b≠x:=fun b u q nm z=>by subst z; rw[q] at mu; exact nm mu
 refine⟨fun b u q n _ _=>k b u (hb b n) q,fun b u q n _ _=>⟨u.slots,k b u (hb b n) q⟩,fun b u q n _=>by rw[aC (hx b n)]; exact n,fun b u q _=>?_,
  fun b xs q=>by rw[aC (hm b _ q fun z=>z)]; exact q,fun b u xs q=>by rw[aC (hm b _ q fun z=>z)]; exact q,fun b ps q=>⟨#[],by rw[aC (hm b _ q fun z=>z),q]; simp⟩⟩
 by_cases hbe:b=e
 ·subst hbe; exact heo
 ·exact⟨u,k b u hbe q⟩
end
def trk(h:Heap)(H:Hp):List Addr:=(List.range h.objs.size).filter fun a=>(H a).isSome
def Ci(h:Heap)(H:Hp):Heap:=PySem.W.hideAll h (trk h H)
theorem Mi(h:Heap)(H:Hp):(Ci h H).objs.size=h.objs.size:=PySem.W.hideAll_size _ _
theorem QD{h:Heap}{H:Hp}{b:Addr}{o:Obj}(e:h.get? b=some o)(n:H b=none):(Ci h H).get? b=some o:=
 PySem.W.hideAll_get _ e fun hm=>by
  have q:(H b).isSome=true:=(Ei.mp hm).2;rw[n] at q; simp at q
theorem T4{h:Heap}{H:Hp}{b:Addr}{o:Obj}(e:(Ci h H).get? b=some o):h.get? b=some o/\H b=none:=by
 have e':h.get? b=some o:=PySem.W.of_hideAll (trk h H) e;refine⟨e',?_⟩;cases q:H b with
 | none=>rfl
 | some x=>
  have hm:b∈trk h H:=Ei.mpr ⟨List.mem_range.mpr (bI e'),by simp[q]⟩
  have z:(Ci h H).get? b=none:=PySem.W.hideAll_none (trk h H) hm;rw[z] at e; cases e
def U7(g h:Heap)(L:Addr):List (Addr×Obj):=(List.range h.objs.size).filterMap fun a=>if a=L\/(g.get? a).isSome=true then none else(h.get? a).map fun o=>(a,o)
def rest(g h:Heap)(L d:Addr):List (Addr×Obj):=(U7 g h L).filter fun p=>decide (p.1≠d)
structure Mod(K:Frag)(mg:Str->Option AA)(base:Heap):Prop where
 Qq:K.In base
 glob:base.Ns mainGlobals mg
 blt:∃mb,base.Ns builtinsNs mb/\∀x:Str,x ≠ "__name__" -> mb x=bootBuiltins x
 nolimit:base.NoLimit
structure Cx where
 prog:AC
 w:World
 K:Frag
 mg:Str->Option AA
 base:Heap
 A:Around
 N:List Str
 s₀:AB
 H₀:Hp
 env:Env
 outer:List Env
 stack:List Env
 ex:List Addr
 fn:Str->Bool
 calm:Bool
 pn:List (Addr×Obj)
 xe:AA->AB->Prop
def frs(l:List Env):List Addr:=l.filterMap (·.frame)
abbrev Cx.fs(X:Cx):List Addr:=frs X.outer
def Vis(sc:Scope)(x:Str):Prop:=sc.names.lookup x=some .local\/sc.names.lookup x=some .cell\/sc.names.lookup x=some .free
def Loc(sc:Scope)(x:Str):Prop:=sc.names.lookup x=some .local\/sc.names.lookup x=some .cell
def Look(env:Env)(h:Heap)(m:Str->Option AA)(x:Str)(u:AA):Prop:=
 (env.kindOf x=some .local/\m x=some u)\/((env.kindOf x=some .cell\/env.kindOf x=some .free)/\∃c,env.cells.lookup x=some c/\h.IsCell c (some u))
structure Cx.Ok(X:Cx):Prop where
 mod:Mod X.K X.mg X.base
 kind:X.env.scope.kind=.function
 glob:X.env.globals=mainGlobals
 blt:X.env.builtins=builtinsNs
 above:X.s₀.heap.objs.size<=X.env.locals
 inj:∀x y c,X.env.cells.lookup x=some c->X.env.cells.lookup y=some c->x=y
 has:∀x,(X.env.kindOf x=some .cell\/X.env.kindOf x=some .free)->∃c,X.env.cells.lookup x=some c
 cab:∀x c,X.fn x=true->X.env.cells.lookup x=some c->X.s₀.heap.objs.size<=c
 hd:X.calm=true->X.A.handled=none
 frames:X.A.frames=some X.stack
 Z1:X.stack=X.outer\/(X.stack=X.env::X.outer/\X.env.frame=some X.env.locals)
 exf:∀b∈X.ex,b≠X.env.locals/\∀x c,X.env.cells.lookup x=some c->c≠b
 bs:∀b o,X.base.get? b=some o->X.s₀.heap.get? b=some o/\X.H₀ b=none
 M4:X.base.objs.size<=X.s₀.heap.objs.size
 Fi:∀b o,X.base.get? b=some o->b∉X.ex
 HD:∀b∈X.ex,b∉X.fs
 sZ:X.s₀.heap.FunFrames X.base X.outer
 VV:∀b∈X.fs,X.H₀ b=none
structure Inv(X:Cx)(ae:List (Addr×Obj))(σ:List (Option V))(H:Hp)(s:AB):Prop where
 ok:X.Ok
 os:s.os=X.s₀.os
 bare:AllBare s.gens
 base:Un X.fs X.ex X.H₀ H X.s₀.heap s.heap
 loc:∃m,s.heap.Ns X.env.locals m/\∀(i:Nat)(x:Str)(v:V),X.N[i]?=some x->σ[i]?=some (some v)->Vis X.env.scope x->∃u,RelV v u/\Look X.env s.heap m x u
 cell:∀x c,X.env.cells.lookup x=some c->∃v,s.heap.IsCell c v
 free:H X.env.locals=none
 jA:∀x c,X.env.cells.lookup x=some c->H c=none
 pin:∀p∈X.pn++ae,s.heap.get? p.1=some p.2/\H p.1=none/\p.1≠X.env.locals/\p.1∉X.fs/\∀v,p.2.data≠.cell v
 hok:jT X.prog X.w H s.heap
 len:σ.length=X.N.length
section
variable{X:Cx}{ae:List (Addr×Obj)}{σ:List (Option V)}{H H':Hp}{s:AB}{h':Heap}
theorem Cx.Ok.adl(ok:X.Ok){b:Addr}{o:Obj}(e:X.base.get? b=some o):b∉X.fs:=fun hb=>by
 have:=(ok.sZ.mem hb).1;rw[e] at this; cases this
theorem Inv.bs(I:Inv X ae σ H s):∀b o,X.base.get? b=some o->s.heap.get? b=some o/\H b=none:=fun b o e=>
 ⟨I.base.keep b o (I.ok.bs b o e).1 (I.ok.bs b o e).2 (I.ok.adl e) (I.ok.Fi b o e),I.base.free b o (I.ok.bs b o e).1 (I.ok.bs b o e).2 (I.ok.Fi b o e)⟩
theorem Inv.bk(I:Inv X ae σ H s):∀b o,X.base.get? b=some o->s.heap.get? b=some o:=fun b o e=>(I.bs b o e).1
theorem Inv.mod(I:Inv X ae σ H s):Mod X.K X.mg X.base:=I.ok.mod
theorem Inv.lg(I:Inv X ae σ H s):X.K.In s.heap:=I.ok.mod.Qq.keeps I.bk
theorem Inv.fr(I:Inv X ae σ H s):∃m,Fr X.base X.env.locals s.heap m:=
 let ⟨m,hn,_⟩:=I.loc
 ⟨m,hn,I.bk,jJ I.ok.M4 I.ok.above⟩
theorem Inv.lt(I:Inv X ae σ H s):X.env.locals<s.heap.objs.size:=let ⟨_,hn,_⟩:=I.loc; hn.lt
theorem Inv.sz(I:Inv X ae σ H s):X.s₀.heap.objs.size<=s.heap.objs.size:=jJ I.ok.above (lK I.lt)
theorem Inv.adk(I:Inv X ae σ H s){a:Addr}(h:s.heap.objs.size<=a):a∉X.fs:=fun hb=>by
 obtain⟨_,o,ho,_⟩:=I.ok.sZ.mem hb;exact absurd (nC (bI ho) (jJ I.sz h)) (pU _)
theorem Inv.Yg(I:Inv X ae σ H s):∀x c,X.env.cells.lookup x=some c->c≠X.env.locals:=fun x c e z=>by
 obtain⟨v,o,ho,hd⟩:=I.cell x c e;obtain⟨m,⟨o',es,ep,ho',hd',_⟩,_⟩:=I.loc;rw[z,ho'] at ho; cases ho; rw[hd'] at hd; cases hd
theorem Inv.sZ(I:Inv X ae σ H s):s.heap.FunFrames X.base X.outer:=by
 have all:∀(l:List Env),(∀b∈frs l,b∈X.fs)->X.s₀.heap.FunFrames X.base l->s.heap.FunFrames X.base l:=by
  intro l
  induction l with
  | nil=>intro _ _; trivial
  | cons env r ih=>
   intro hs hl;obtain⟨hk,⟨L,o,hf,hn,ho,hd⟩,hr⟩:=hl;have hL:L∈X.fs:=hs L (by unfold frs; rw[List.filterMap_cons,hf]; exact eX)
   obtain⟨sl,e⟩:=I.base.slot L o ho (I.ok.VV L hL) hL fun z=>I.ok.HD L z hL;exact⟨hk,⟨L,_,hf,hn,e,hd⟩,ih (fun b hb=>hs b (by unfold frs; rw[List.filterMap_cons,hf]; exact dX _ hb)) hr⟩
 exact all X.outer (fun _ hb=>hb) I.ok.sZ
theorem Inv.stack(I:Inv X ae σ H s):s.heap.FunFrames X.base X.stack:=by
 rcases I.ok.Z1 with e | ⟨e,hf⟩
 ·rw[e]; exact I.sZ
 ·rw[e];obtain⟨m,hn,_⟩:=I.loc;refine .cons (by rw[I.ok.kind]; decide) hf hn ?_ I.sZ
  exact Heap.get?_none_of_le (jJ I.ok.M4 I.ok.above)
theorem Inv.Gy(I:Inv X ae σ H s):∀b∈frs X.stack,b∈X.env.locals::X.fs:=fun b hb=>by
 rcases I.ok.Z1 with e | ⟨e,hf⟩
 ·rw[e] at hb; exact dX _ hb
 ·rw[e] at hb;unfold frs at hb;rw[List.filterMap_cons,hf] at hb;exact hb
theorem Inv.uP(I:Inv X ae σ H s):∀b∈frs X.stack,H b=none:=fun b hb=>by
 rcases bK.mp (I.Gy b hb) with e | hb
 ·rw[e]; exact I.free
 ·obtain⟨_,o,ho,_⟩:=I.ok.sZ.mem hb;exact I.base.free b o ho (I.ok.VV b hb) fun z=>I.ok.HD b z hb
theorem Inv.step{g':Array GenState}{t':Nat}{d':Drawn}{ch:List Addr}(I:Inv X ae σ H s)
  (hch:∀b∈ch,(b∈X.ex\/X.s₀.heap.objs.size<=b)/\b≠X.env.locals/\(∀x c,X.env.cells.lookup x=some c->c≠b)/\∀p∈X.pn++ae,p.1≠b)
  (keep:∀b o,b≠X.env.locals->b∉X.fs->b∉ch->s.heap.get? b=some o->H b=none->h'.get? b=some o)
  (slot:∀b o,b≠X.env.locals->b∈X.fs->b∉ch->s.heap.get? b=some o->H b=none->∃sl,h'.get? b=some { o with slots:=sl }) (free:∀b o,b∉ch->s.heap.get? b=some o->H b=none->H' b=none)
  (there:∀b o,b∉ch->s.heap.get? b=some o->∃o',h'.get? b=some o')
  (tups:∀b xs,H b=some (.tup xs)->H' b=some (.tup xs)) (uM:∀b o u,H b=some (.kE o u)->H' b=some (.kE o u)) (xV:∀b ps,H b=some (.Vg ps)->∃more,H' b=some (.Vg (ps++more)))
  (ns:∀m,s.heap.Ns X.env.locals m->h'.Ns X.env.locals m) (hok:jT X.prog X.w H' h') (hg:AllBare g') :
  Inv X ae σ H' { s with heap:=h',gens:=g',drawn:=d',toks:=t' }:=by
 have neL:∀b o,X.s₀.heap.get? b=some o->b≠X.env.locals:=fun b o e=>cZ (nC (bI e) I.ok.above)
 have neC:∀b o,X.s₀.heap.get? b=some o->b∉X.ex->b∉ch:=fun b o e hx hb=>by
  rcases(hch b hb).1 with z | z
  ·exact hx z
  ·exact absurd (nC (bI e) z) (pU _)
 have cellK:∀x c,X.env.cells.lookup x=some c->∀v,s.heap.IsCell c v->h'.IsCell c v:=fun x c e v ⟨o,ho,hd⟩=>by
  have nch:c∉ch:=fun z=>(hch c z).2.2.1 x c e rfl;by_cases hc:c∈X.fs
  ·obtain⟨sl,q⟩:=slot c o (I.Yg x c e) hc nch ho (I.jA x c e);exact⟨_,q,hd⟩
  ·exact⟨o,keep c o (I.Yg x c e) hc nch ho (I.jA x c e),hd⟩
 refine⟨I.ok,I.os,hg,⟨fun b o e n hb hx=>?_,fun b o e n hb hx=>?_,fun b o e n hx=>?_,fun b o e hx=>?_,fun b xs e=>tups b xs (I.base.tups b xs e),fun b o xs e=>uM b o xs (I.base.uM b o xs e),fun b ps e=>?_⟩,?_,fun x c e=>?_,?_,fun x c e=>?_,fun p hp=>?_,hok,I.len⟩
 ·exact keep b o (neL b o e) hb (neC b o e hx) (I.base.keep b o e n hb hx) (I.base.free b o e n hx)
 ·obtain⟨sl,e1⟩:=I.base.slot b o e n hb hx;obtain⟨sl',e2⟩:=slot b _ (neL b o e) hb (neC b o e hx) e1 (I.base.free b o e n hx);exact⟨sl',e2⟩
 ·obtain⟨o',e1⟩:=I.base.there b o e hx;exact free b o' (neC b o e hx) e1 (I.base.free b o e n hx)
 ·obtain⟨o',e1⟩:=I.base.there b o e hx;exact there b o' (neC b o e hx) e1
 ·obtain⟨m1,e1⟩:=I.base.xV b ps e;obtain⟨m2,e2⟩:=xV b _ e1;exact⟨m1++m2,by rw[e2,Array.append_assoc]⟩
 ·obtain⟨m,hn,hl⟩:=I.loc;refine⟨m,ns m hn,fun i x v e1 e2 e3=>?_⟩;obtain⟨u,r,l⟩:=hl i x v e1 e2 e3;refine⟨u,r,?_⟩;rcases l with l | ⟨k,c,e,z⟩
  ·exact .inl l
  ·exact .inr ⟨k,c,e,cellK x c e _ z⟩
 ·obtain⟨v,z⟩:=I.cell x c e;exact⟨v,cellK x c e v z⟩
 ·obtain⟨m,⟨o,_,_,ho,_⟩,_⟩:=I.loc;exact free _ o (fun z=>(hch _ z).2.1 rfl) ho I.free
 ·obtain⟨v,o,ho,hd⟩:=I.cell x c e;exact free c o (fun z=>(hch c z).2.2.1 x c e rfl) ho (I.jA x c e)
 ·obtain⟨e,n,ne,nf,d⟩:=I.pin p hp;have nch:p.1∉ch:=fun z=>(hch p.1 z).2.2.2 p hp rfl;exact⟨keep p.1 p.2 ne nf nch e n,free p.1 p.2 nch e n,ne,nf,d⟩
theorem Inv.un{t':Nat}(I:Inv X ae σ H s)(u:Un X.fs [] H H' s.heap h')(hok:jT X.prog X.w H' h'):Inv X ae σ H' { s with heap:=h',toks:=t' }:=by
 obtain⟨m,⟨o,es,ep,ho,r⟩,_⟩:=id I.loc;obtain⟨sl,hL⟩:=u.any ho I.free (by simp)
 exact I.step (g':=s.gens) (d':=s.drawn) (ch:=[]) (fun _ z=>nomatch z) (fun b o _ hb _ e n=>u.keep b o e n hb (by simp)) (fun b o _ hb _ e n=>u.slot b o e n hb (by simp)) (fun b o _ e n=>u.free b o e n (by simp)) (fun b o _ e=>u.there b o e (by simp)) u.tups u.uM u.xV (fun m' hm=>by
  obtain⟨o',es',ep',ho',r'⟩:=hm;rw[ho] at ho'; cases ho'
  exact⟨_,es',ep',hL,r'⟩) hok I.bare
theorem Inv.call{g':Array GenState}{t':Nat}{d':Drawn}{ch:List Addr}(I:Inv X ae σ H s)(u:Un (frs X.stack) ch H H' s.heap h')(hok:jT X.prog X.w H' h')(hg:AllBare g')
  (hch:∀b∈ch,(b∈X.ex\/X.s₀.heap.objs.size<=b)/\b≠X.env.locals/\(∀x c,X.env.cells.lookup x=some c->c≠b)/\∀p∈X.pn++ae,p.1≠b) :
  Inv X ae σ H' { s with heap:=h',gens:=g',drawn:=d',toks:=t' }:=by
 obtain⟨m,⟨o,es,ep,ho,r⟩,_⟩:=id I.loc;obtain⟨sl,hL⟩:=u.any ho I.free fun z=>(hch _ z).2.1 rfl
 exact I.step (ch:=ch) hch (fun b o hL hb hc e n=>u.keep b o e n (fun z=>(bK.mp (I.Gy b z)).elim hL hb) hc) (fun b o _ _ hc e n=>u.any e n hc) (fun b o hc e n=>u.free b o e n hc) (fun b o hc e=>u.there b o e hc) u.tups u.uM u.xV (fun m' hm=>by
  obtain⟨o',es',ep',ho',r'⟩:=hm;rw[ho] at ho'; cases ho'
  exact⟨_,es',ep',hL,r'⟩) hok hg
theorem Inv.turned{t':Nat}{it:Addr}(I:Inv X ae σ H s)(k:∀b o,b≠it->s.heap.get? b=some o->h'.get? b=some o)(hn:H it=none)(hL:it≠X.env.locals)
  (h1:it∈X.ex\/X.s₀.heap.objs.size<=it) (h2:∀x c,X.env.cells.lookup x=some c->c≠it) (h3:∀p∈X.pn++ae,p.1≠it):Inv X ae σ H { s with heap:=h',toks:=t' }:=by
 have nit:∀b u,H b=some u->b≠it:=fun b u e z=>by rw[z,hn] at e; cases e
 refine I.step (g':=s.gens) (d':=s.drawn) (ch:=[it]) (fun b hb=>?_) (fun b o _ _ hc e _=>k b o (fun z=>hc (by simp[z])) e) (fun b o _ _ hc e _=>⟨o.slots,k b o (fun z=>hc (by simp[z])) e⟩) (fun _ _ _ _ n=>n)
  (fun b o hc e=>⟨o,k b o (fun z=>hc (by simp[z])) e⟩) (fun _ _ e=>e) (fun _ _ _ e=>e) (fun b ps e=>⟨#[],by rw[e]; simp⟩) (fun m hm=>?_) (fun b u e=>?_) I.bare
 ·have e:b=it:=by simpa using hb
  subst e;exact⟨h1,hL,h2,h3⟩
 ·obtain⟨o,es,ep,ho,r⟩:=hm;exact⟨o,es,ep,k _ o (Ne.symm hL) ho,r⟩
 ·refine(I.hok b u e).stay (fun c v hc q=>k c v ?_ q) (fun _ q=>q) fun _ _ q=>q;rcases hc with z | z
  ·rw[z]; exact nit b u e
  ·exact nit c _ z
theorem Inv.tok(I:Inv X ae σ H s)(t:Nat):Inv X ae σ H { s with toks:=t }:=I.un (h':=s.heap) (t':=t) Un.refl I.hok
theorem Inv.kept{t':Nat}(I:Inv X ae σ H s)(k:∀b u,s.heap.get? b=some u->h'.get? b=some u):Inv X ae σ H { s with heap:=h',toks:=t' }:=I.un (Un.kept k) (I.hok.kept k)
theorem Inv.laid{a:Addr}{o:HO}{t':Nat}(I:Inv X ae σ H s)(k:∀b u,s.heap.get? b=some u->h'.get? b=some u)(hp:s.heap.objs.size<=a)(new:bM X.prog X.w (upd H a o) h' a o) :
  Inv X ae σ (upd H a o) { s with heap:=h',toks:=t' }:=I.un (Un.laid k hp (I.hok.fresh hp)) (I.hok.laid k hp new)
theorem Inv.write{x e:Addr}{o:HO}{t':Nat}(I:Inv X ae σ H s)(mu:Mut (H x))(he:e=x\/H e=some (.own x))(k:∀b u,b≠e->s.heap.get? b=some u->h'.get? b=some u)(heo:∃u,h'.get? e=some u)
  (new:bM X.prog X.w (upd H x o) h' x o):Inv X ae σ (upd H x o) { s with heap:=h',toks:=t' }:=I.un (Un.write mu he k heo) (I.hok.write mu he k heo new)
theorem Inv.weak{σ':List (Option V)}(I:Inv X ae σ H s)(hl:σ'.length=σ.length)(w:∀(i:Nat) v,σ'[i]?=some (some v)->σ[i]?=some (some v)):Inv X ae σ' H s:=
 ⟨I.ok,I.os,I.bare,I.base,let ⟨m,hn,hl'⟩:=I.loc; ⟨m,hn,fun i x v e1 e2 e3=>hl' i x v e1 (w i v e2) e3⟩,I.cell,I.free,I.jA,I.pin,I.hok,hl.trans I.len⟩
theorem Inv.JC{VG:List (Addr×Obj)}(I:Inv X ae σ H s)(h:∀p∈VG,s.heap.get? p.1=some p.2/\H p.1=none/\p.1≠X.env.locals/\p.1∉X.fs/\∀v,p.2.data≠.cell v):Inv X VG σ H s:=
 ⟨I.ok,I.os,I.bare,I.base,I.loc,I.cell,I.free,I.jA,fun p hp=>(gm.mp hp).elim (fun z=>I.pin p (Es _ z)) (h p),I.hok,I.len⟩
theorem Fj{N:List Str}(hN:N.Nodup){i j:Nat}{x:Str}(a:N[i]?=some x)(b:N[j]?=some x):i=j:=by
 obtain⟨h1,e1⟩:=iW.mp a;obtain⟨h2,e2⟩:=iW.mp b;exact(List.getElem_inj hN).mp (e1.trans e2.symm)
theorem KR{M:Model}{A:Around}{E:AA->AB->Prop}{i:Nat}{x:Str}{v:V}{u:AA}{Q:Unit->AB->Prop}(I:Inv X ae σ H s)(hN:X.N.Nodup)(hi:X.N[i]?=some x)(hx:Loc X.env.scope x)(r:RelV v u)
  (h:∀s',Inv X ae (σ.set i (some v)) H s'->(∃a,Heap.SameBut a s.heap s'.heap/\(a=X.env.locals\/X.env.cells.lookup x=some a))->Q () s') (hf: autoParam (X.fn x=true\/X.env.scope.names.lookup x=some .local) zd._auto_1):wpAny M A (storeName X.env x u) Q E s:=by
 obtain⟨m,hn,hl⟩:=id I.loc;have hcls:(X.env.scope.kind==.class || (X.env.scope.kind==.module&&X.env.locals != X.env.globals))=false:=by rw[I.ok.kind]; rfl
 have hiσ:i<σ.length:=by rw[I.len]; exact(iW.mp hi).1
 have Yg:=I.Yg
 have tracked:∀{a:Addr}{h':Heap},(∃o,s.heap.get? a=some o/\H a=none)->Heap.SameBut a s.heap h'->jT X.prog X.w H h':=fun {a h'} ha hs b ob e=>by
  obtain⟨_,_,hfree⟩:=ha;refine(I.hok b ob e).stay (fun c w' hc q=>(hs.2 c ?_).trans q) (fun _ q=>q) fun _ _ q=>q;rintro rfl;rcases hc with rfl | hc
  ·rw[hfree] at e; cases e
  ·rw[hfree] at hc; cases hc
 rcases hx with hk | hk
 ·refine wpAny_storeName_local hk hn (fun h' hn' hs=>?_) hcls;obtain⟨oL,_,_,hoL,_⟩:=id hn;refine h _ ⟨I.ok,I.os,I.bare,⟨fun b o e n hb hx=>?_,fun b o e n hb hx=>?_,I.base.free,fun b o e hx=>?_,I.base.tups,I.base.uM,I.base.xV⟩,⟨_,hn',fun j y v' e1 e2 e3=>?_⟩,fun y c e=>?_,I.free,I.jA,fun p hp=>?_,tracked ⟨oL,hoL,I.free⟩ hs,by simpa using I.len⟩ ⟨_,hs,.inl rfl⟩
  ·exact(hs.2 b (cZ (nC (bI e) I.ok.above))).trans (I.base.keep b o e n hb hx)
  ·obtain⟨sl,e1⟩:=I.base.slot b o e n hb hx;exact⟨sl,(hs.2 b (cZ (nC (bI e) I.ok.above))).trans e1⟩
  ·obtain⟨o',e1⟩:=I.base.there b o e hx;exact⟨o',(hs.2 b (cZ (nC (bI e) I.ok.above))).trans e1⟩
  ·by_cases hj:j=i
   ·subst hj;rw[hi] at e1; cases e1;rw[Pb hiσ] at e2;cases e2;exact⟨u,r,.inl ⟨hk,by simp⟩⟩
   ·rw[Le (Ne.symm hj)] at e2;obtain⟨u',r',q⟩:=hl j y v' e1 e2 e3;refine⟨u',r',?_⟩;rcases q with⟨k,e⟩ | ⟨k,c,e,z⟩
    ·refine .inl ⟨k,?_⟩;have:y≠x:=fun e=>hj (Fj hN e1 (e▸hi));simp[this,e]
    ·exact .inr ⟨k,c,e,z.sameBut hs (Yg y c e)⟩
  ·obtain⟨w',z⟩:=I.cell y c e;exact⟨w',z.sameBut hs (Yg y c e)⟩
  ·obtain⟨e,n,ne,nf,d⟩:=I.pin p hp;exact⟨(hs.2 p.1 ne).trans e,n,ne,nf,d⟩
 ·have hfn:X.fn x=true:=by
   rcases hf with z | z
   ·exact z
   ·rw[z] at hk; cases hk
  obtain⟨c,hc⟩:=I.ok.has x (.inl hk);obtain⟨w',z⟩:=I.cell x c hc;refine wpAny_storeName_cell I.ok.kind hk hc z (fun h' hc' hs=>?_);obtain⟨oc,hoc,adG⟩:=id z;refine h { s with heap:=h' } ⟨I.ok,I.os,I.bare,⟨fun b o e n hb hx=>?_,fun b o e n hb hx=>?_,I.base.free,fun b o e hx=>?_,I.base.tups,I.base.uM,I.base.xV⟩,⟨m,hn.sameBut hs (Ne.symm (Yg x c hc)),fun j y v' e1 e2 e3=>?_⟩,fun y c' e=>?_,I.free,I.jA,fun p hp=>?_,tracked ⟨oc,hoc,I.jA x c hc⟩ hs,by simpa using I.len⟩ ⟨c,hs,.inr hc⟩
  ·exact(hs.2 b (cZ (nC (bI e) (I.ok.cab x c hfn hc)))).trans (I.base.keep b o e n hb hx)
  ·obtain⟨sl,e1⟩:=I.base.slot b o e n hb hx;exact⟨sl,(hs.2 b (cZ (nC (bI e) (I.ok.cab x c hfn hc)))).trans e1⟩
  ·obtain⟨o',e1⟩:=I.base.there b o e hx;exact⟨o',(hs.2 b (cZ (nC (bI e) (I.ok.cab x c hfn hc)))).trans e1⟩
  ·by_cases hj:j=i
   ·subst hj;rw[hi] at e1; cases e1;rw[Pb hiσ] at e2;cases e2;exact⟨u,r,.inr ⟨.inl hk,c,hc,hc'⟩⟩
   ·rw[Le (Ne.symm hj)] at e2;obtain⟨u',r',q⟩:=hl j y v' e1 e2 e3;refine⟨u',r',?_⟩;rcases q with q | ⟨k,c',e,z'⟩
    ·exact .inl q
    ·refine .inr ⟨k,c',e,z'.sameBut hs ?_⟩;rintro rfl;exact hj (Fj hN e1 (I.ok.inj _ _ _ e hc▸hi))
  ·by_cases hcc:c'=c
   ·subst hcc; exact⟨_,hc'⟩
   ·obtain⟨w2,z2⟩:=I.cell y c' e;exact⟨w2,z2.sameBut hs hcc⟩
  ·obtain⟨e,n,ne,nf,d⟩:=I.pin p hp;refine⟨(hs.2 p.1 ?_).trans e,n,ne,nf,d⟩;intro q;rw[q,hoc] at e;have q':oc=p.2:=Option.some.inj e;exact d w' (by rw[<- q']; exact adG)
theorem iw{M:Model}{A:Around}{E:AA->AB->Prop}{i:Nat}{x:Str}{v:V}{u:AA}{Q:Unit->AB->Prop}(I:Inv X ae σ H s)(hN:X.N.Nodup)(hi:X.N[i]?=some x)(hx:Loc X.env.scope x)(r:RelV v u)
  (h:∀s',Inv X ae (σ.set i (some v)) H s'->Q () s') (hf: autoParam (X.fn x=true\/X.env.scope.names.lookup x=some .local) zd._auto_1):wpAny M A (storeName X.env x u) Q E s:=
 KR I hN hi hx r (fun s' I' _=>h s' I') hf
theorem Inv.call'{s':AB}{ch:List Addr}(I:Inv X ae σ H s)(ho:s'.os=s.os)(u:Un (frs X.stack) ch H H' s.heap s'.heap)(hok:jT X.prog X.w H' s'.heap)(hg:AllBare s'.gens)
  (hch:∀b∈ch,(b∈X.ex\/X.s₀.heap.objs.size<=b)/\b≠X.env.locals/\(∀x c,X.env.cells.lookup x=some c->c≠b)/\∀p∈X.pn++ae,p.1≠b):Inv X ae σ H' s':=by
 obtain⟨h',g',d',t',o'⟩:=s';have e:o'=s.os:=ho;subst e;exact I.call (g':=g') (t':=t') (d':=d') u hok hg hch
end
abbrev XK:=AA->Option Addr->Hp->Prop
abbrev St:=List (Option V)
abbrev VK:=V->Hp->Prop
abbrev TE:=St->Hp->VK->Prop
abbrev TT:=St->Hp->(Bool->Hp->Prop)->Prop
abbrev TA:=St->Hp->(List V->Hp->Prop)->Prop
structure Ends where
 nx:St->Hp->Prop
 rt:VK
 bk:St->Hp->Prop:=fun _ _=>False
 ct:St->Hp->Prop:=fun _ _=>False
abbrev TS:=Ends->St->Hp->Prop
def EP(X:Cx)(ae:List (Addr×Obj))(σ:St)(Q:VK)(u:AA)(s':AB):Prop:=∃v H',Inv X ae σ H' s'/\RelV v u/\Q v H'
def TP(X:Cx)(ae:List (Addr×Obj))(σ:St)(Q:Bool->Hp->Prop)(b:Bool)(s':AB):Prop:=∃H',Inv X ae σ H' s'/\Q b H'
def AP(X:Cx)(ae:List (Addr×Obj))(σ:St)(Q:List V->Hp->Prop)(us:List AA)(s':AB):Prop:=∃vs H',Inv X ae σ H' s'/\Vals vs us/\Q vs H'
def SP(X:Cx)(ae:List (Addr×Obj))(D:Ends)(f:Flow)(s':AB):Prop:=
 match f with
 | .next=>∃σ' H',Inv X ae σ' H' s'/\D.nx σ' H'
 | .brk=>∃σ' H',Inv X ae σ' H' s'/\D.bk σ' H'
 | .cont=>∃σ' H',Inv X ae σ' H' s'/\D.ct σ' H'
 | .ret u=>∃v σ' H',Inv X ae σ' H' s'/\RelV v u/\D.rt v H'
structure PE(X:Cx)(e:Expr)(t:TE):Prop where
 mk ::
 go :
 ∀(ae:List (Addr×Obj))(s:AB)(σ:St)(H:Hp)(Q:VK),Inv X ae σ H s->t σ H Q->wpAny (model X.prog X.w) X.A (eval e X.env) (EP X ae σ Q) X.xe s
instance {X:Cx} {e:Expr} {t:TE}:CoeFun (PE X e t) (fun _=>
 ∀(ae:List (Addr×Obj))(s:AB)(σ:St)(H:Hp)(Q:VK),Inv X ae σ H s->t σ H Q->wpAny (model X.prog X.w) X.A (eval e X.env) (EP X ae σ Q) X.xe s):=⟨PE.go⟩
structure PT(X:Cx)(e:Expr)(t:TT):Prop where
 mk ::
 go :
 ∀(ae:List (Addr×Obj))(s:AB)(σ:St)(H:Hp)(Q:Bool->Hp->Prop),Inv X ae σ H s->t σ H Q->wpAny (model X.prog X.w) X.A (isTrue e X.env (eval e X.env)) (TP X ae σ Q) X.xe s
instance {X:Cx} {e:Expr} {t:TT}:CoeFun (PT X e t) (fun _=>
 ∀(ae:List (Addr×Obj))(s:AB)(σ:St)(H:Hp)(Q:Bool->Hp->Prop),Inv X ae σ H s->t σ H Q->wpAny (model X.prog X.w) X.A (isTrue e X.env (eval e X.env)) (TP X ae σ Q) X.xe s):=⟨PT.go⟩
structure PW(X:Cx)(e:Expr)(t:TT):Prop where
 mk ::
 go :
 ∀(whole:Sem AA)(ae:List (Addr×Obj))(s:AB)(σ:St)(H:Hp)(Q:Bool->Hp->Prop),Inv X ae σ H s->t σ H Q->wpAny (model X.prog X.w) X.A (isTrue e X.env whole) (TP X ae σ Q) X.xe s
instance {X:Cx} {e:Expr} {t:TT}:CoeFun (PW X e t) (fun _=>
 ∀(whole:Sem AA)(ae:List (Addr×Obj))(s:AB)(σ:St)(H:Hp)(Q:Bool->Hp->Prop),Inv X ae σ H s->t σ H Q->wpAny (model X.prog X.w) X.A (isTrue e X.env whole) (TP X ae σ Q) X.xe s):=⟨PW.go⟩
theorem PW.pt{X:Cx}{e:Expr}{t:TT}(h:PW X e t):PT X e t:=.mk <| h _
structure PA(X:Cx)(es:List Expr)(t:TA):Prop where
 mk ::
 go :
 ∀(pos:Pos)(ae:List (Addr×Obj))(s:AB)(σ:St)(H:Hp)(Q:List V->Hp->Prop),Inv X ae σ H s->t σ H Q->wpAny (model X.prog X.w) X.A (spliced (backTo pos (starEach es X.env))) (AP X ae σ Q) X.xe s
instance {X:Cx} {es:List Expr} {t:TA}:CoeFun (PA X es t) (fun _=>
 ∀(pos:Pos)(ae:List (Addr×Obj))(s:AB)(σ:St)(H:Hp)(Q:List V->Hp->Prop),Inv X ae σ H s->t σ H Q->wpAny (model X.prog X.w) X.A (spliced (backTo pos (starEach es X.env))) (AP X ae σ Q) X.xe s):=⟨PA.go⟩
structure PS(X:Cx)(st:Stmt)(t:TS):Prop where
 mk ::
 go :
 ∀(ae:List (Addr×Obj))(s:AB)(σ:St)(H:Hp)(D:Ends),Inv X ae σ H s->t D σ H->wpAny (model X.prog X.w) X.A (exec st X.env) (SP X ae D) X.xe s
instance {X:Cx} {st:Stmt} {t:TS}:CoeFun (PS X st t) (fun _=>
 ∀(ae:List (Addr×Obj))(s:AB)(σ:St)(H:Hp)(D:Ends),Inv X ae σ H s->t D σ H->wpAny (model X.prog X.w) X.A (exec st X.env) (SP X ae D) X.xe s):=⟨PS.go⟩
structure Aj(X:Cx)(st:List Stmt)(t:TS):Prop where
 mk ::
 go :
 ∀(ae:List (Addr×Obj))(s:AB)(σ:St)(H:Hp)(D:Ends),Inv X ae σ H s->t D σ H->wpAny (model X.prog X.w) X.A (execs st X.env) (SP X ae D) X.xe s
instance {X:Cx} {st:List Stmt} {t:TS}:CoeFun (Aj X st t) (fun _=>
 ∀(ae:List (Addr×Obj))(s:AB)(σ:St)(H:Hp)(D:Ends),Inv X ae σ H s->t D σ H->wpAny (model X.prog X.w) X.A (execs st X.env) (SP X ae D) X.xe s):=⟨Aj.go⟩
theorem cA{α:Type}{t:Sem α}{Q Q':α->AB->Prop}{M:Model}{A:Around}{E:AA->AB->Prop}{s:AB}(h:wpAny M A t Q E s)(hQ:∀a s,Q a s->Q' a s):wpAny M A t Q' E s:=jj h hQ fun _ _ x=>x
section
variable{X:Cx}
def mR(i:Nat):TE:=fun σ H Q=>match σ[i]? with
 | some (some v)=>Q v H
 | _=>False
theorem mR.ex{i:Nat}{σ:St}{H:Hp}{Q:VK}(h:mR i σ H Q):∃v,σ[i]?=some (some v)/\Q v H:=by
 unfold mR at h;split at h
 ·rename_i v e;exact⟨v,e,h⟩
 ·exact h.elim
def tC(v:V):TE:=fun _ H Q=>Q v H
theorem Xb{i:Nat}{x:Str}{pos:Pos}(hN:X.N[i]?=some x)(hv:Vis X.env.scope x)(hd:((x==("__debug__" : Str))=false)⁻¹)(hcd:((x==("__classdict__" : Str))=false)⁻¹):PE X (.Name x pos) (mR i):=by
 symm;intro Q I h;obtain⟨v,e,h⟩:=mR.ex h;obtain⟨m,hn,hl⟩:=I.loc;obtain⟨u,r,l⟩:=hl i x v hN e hv;have fin:EP X ae σ Q u s:=⟨v,H,I,r,h⟩;rcases l with⟨hk,hm⟩ | ⟨hk,c,hc,hcell⟩
 ·exact wpAny_Name (wpAny_loadName_local I.ok.kind hk hn hm fin) hd
 ·rcases hk with hk | hk
  ·exact wpAny_Name (wpAny_loadName_cell I.ok.kind hk hc hcell fin) hd
  ·exact wpAny_Name (wpAny_loadName_free I.ok.kind hk hc hcell fin hcd) hd
theorem aA{i j pos}:PE X (.Constant (.int i) j pos) (tC (.int i)):=.mk <| fun _ _ _ H _ I h=>wpAny_Constant_int ⟨.int i,H,I.tok _,⟨_,rfl⟩,h⟩
theorem jr{b j pos}:PE X (.Constant (.bool b) j pos) (tC (.bl b)):=.mk <| fun _ _ _ H _ I h=>Constant_bool ⟨.bl b,H,I,rfl,h⟩
theorem iR{j pos}:PE X (.Constant .none j pos) (tC .non):=.mk <| fun _ _ _ H _ I h=>Constant_none ⟨.non,H,I,rfl,h⟩
theorem fG{x j pos}:PE X (.Constant (.str x) j pos) (tC (.str x)):=.mk <| fun _ _ _ H _ I h=>Calls.Constant_str ⟨.str x,H,I.tok _,⟨_,rfl⟩,h⟩
def Gl(X:Cx)(x:Str):Prop:=X.env.kindOf x=some .globalImplicit
theorem qY{E:AA->AB->Prop}{ae:List (Addr×Obj)}{s:AB}{σ:St}{H:Hp}{x:Str}{u:AA}{pos:Pos}{Q:AA->AB->Prop}(I:Inv X ae σ H s)(hg:Gl X x)(hm:X.mg x=some u)(h:Q u s)
  (hd:((x==("__debug__" : Str))=false)⁻¹):wpAny (model X.prog X.w) X.A (eval (.Name x pos) X.env) Q E s:=
 Calls.Name_function_global I.ok.kind hg (Calls.loadGlobal_global (by rw[I.ok.glob]; exact I.mod.glob.keeps I.bk) hm h) hd
theorem gZ{E:AA->AB->Prop}{ae:List (Addr×Obj)}{s:AB}{σ:St}{H:Hp}{x:Str}{u:AA}{pos:Pos}{Q:AA->AB->Prop}(I:Inv X ae σ H s)(hg:Gl X x)(hm:X.mg x=none)(hv:bootBuiltins x=some u)(h:Q u s)
  (hn:(x ≠ "__name__")⁻¹) (hd:((x==("__debug__" : Str))=false)⁻¹):wpAny (model X.prog X.w) X.A (eval (.Name x pos) X.env) Q E s:=by
 obtain⟨mb,h1,h2⟩:=I.mod.blt;exact Calls.Name_function_global I.ok.kind hg (Calls.loadGlobal_builtin (by rw[I.ok.glob]; exact I.mod.glob.keeps I.bk) hm (by rw[I.ok.blt]; exact h1.keeps I.bk) ((h2 x hn).trans hv) h) hd
theorem Bu{x:Str}{v:V}{u:AA}{pos:Pos}(hg:Gl X x)(hm:X.mg x=some u)(r:RelV v u)(hd:((x==("__debug__" : Str))=false)⁻¹):PE X (.Name x pos) (tC v):=
 .mk <| fun _ _ _ H _ I h=>qY I hg hm ⟨v,H,I,r,h⟩ hd
theorem Tr{x:Str}{v:V}{u:AA}{pos:Pos}(hg:Gl X x)(hm:X.mg x=none)(hv:bootBuiltins x=some u)(r:RelV v u)(hn:(x ≠ "__name__")⁻¹)(hd:((x==("__debug__" : Str))=false)⁻¹):PE X (.Name x pos) (tC v):=
 .mk <| fun _ _ _ H _ I h=>gZ I hg hm hv ⟨v,H,I,r,h⟩ hn hd
variable{a b:Expr}{ta tb:TE}{pos:Pos}
def tB(t:TE):TT:=fun σ H Q=>t σ H fun x H1=>∃c,x=.bl c/\Q c H1
theorem dD{e:Expr}{t:TE}(h:PE X e t)(he:‹∀whole,isTrue e X.env whole=(do let v <- whole; standAt e.pos; holding [v] (truthy v))›):PT X e (tB t):=by
 symm;intro Q I hw;refine isTrue_plain (cA (h ae s σ H _ I hw) fun v s1 ⟨x,H1,I1,r1,q1⟩=>?_) (he _);obtain⟨d,rfl,q⟩:=q1;cases r1;exact D_ ⟨H1,I1,q⟩
variable{tA tB':TT}{rest:List Expr}
def ZX(t u:TT):TT:=fun σ H Q=>t σ H fun c H1=>if c=true then u σ H1 Q else Q false H1
def tOr(t u:TT):TT:=fun σ H Q=>t σ H fun c H1=>if c=true then Q true H1 else u σ H1 Q
def ZP(t:TT):TT:=fun σ H Q=>t σ H fun c H1=>Q (!c) H1
theorem uU(ha:PT X a tA):PW X (.BoolOp .And [a] pos) tA:=by
 refine .mk ?_;intro wh ae s σ H Q I h;refine isTrue_and (cA (ha ae s σ H Q I h) fun c s1 e=>?_);cases c with
 | true=>exact isTrue_and_nil e
 | false=>exact e
theorem lL(ha:PT X a tA):PW X (.BoolOp .Or [a] pos) tA:=by
 refine .mk ?_;intro wh ae s σ H Q I h;refine isTrue_or (cA (ha ae s σ H Q I h) fun c s1 e=>?_);cases c with
 | false=>exact isTrue_or_nil e
 | true=>exact e
theorem Bl(ha:PT X a tA)(hb:PW X (.BoolOp .And (b::rest) pos) tB'):PW X (.BoolOp .And (a::b::rest) pos) (ZX tA tB'):=by
 refine .mk ?_;intro wh ae s σ H Q I h;refine isTrue_and (cA (ha ae s σ H _ I h) fun c s1 qx=>?_);obtain⟨H1,I1,q1⟩:=qx;cases c with
 | true=>exact hb wh ae s1 σ H1 Q I1 q1
 | false=>exact⟨H1,I1,q1⟩
theorem qR(ha:PT X a tA)(hb:PW X (.BoolOp .Or (b::rest) pos) tB'):PW X (.BoolOp .Or (a::b::rest) pos) (tOr tA tB'):=by
 refine .mk ?_;intro wh ae s σ H Q I h;refine isTrue_or (cA (ha ae s σ H _ I h) fun c s1 qx=>?_);obtain⟨H1,I1,q1⟩:=qx;cases c with
 | true=>exact⟨H1,I1,q1⟩
 | false=>exact hb wh ae s1 σ H1 Q I1 q1
theorem jo(ha:PT X a tA):PT X (.UnaryOp .Not a pos) (ZP tA):=by
 symm;intro Q I h;exact isTrue_not (ha ae s σ H (fun c H1=>Q (!c) H1) I h)
def Vq(ta tb:TE):TE:=fun σ H Q=>ta σ H fun x H1=>∃c,x=.bl c/\if c=true then tb σ H1 Q else Q (.bl false) H1
def acM(ta tb:TE):TE:=fun σ H Q=>ta σ H fun x H1=>∃c,x=.bl c/\if c=true then Q (.bl true) H1 else tb σ H1 Q
def Vj(ta:TE):TE:=fun σ H Q=>ta σ H fun x H1=>∃c,x=.bl c/\Q (.bl (!c)) H1
theorem Bt{op}{t:TE}(h:PE X a t):PE X (.BoolOp op [a] pos) t:=.mk <| fun ae s σ H Q I hw=>BoolOp_one (h ae s σ H Q I hw)
theorem sU(ha:PE X a ta)(hb:PE X (.BoolOp .And (b::rest) pos) tb):PE X (.BoolOp .And (a::b::rest) pos) (Vq ta tb):=by
 symm;intro Q I h;refine BoolOp_and (cA (ha ae s σ H _ I h) fun v s1 qx=>?_);obtain⟨x,H1,I1,r1,q1⟩:=qx;obtain⟨c,rfl,q1⟩:=q1;cases r1;refine D_ ?_;cases c with
 | true=>exact hb ae s1 σ H1 Q I1 q1
 | false=>exact⟨.bl false,H1,I1,rfl,q1⟩
theorem Xc(ha:PE X a ta):PE X (.UnaryOp .Not a pos) (Vj ta):=by
 symm;intro Q I h;refine UnaryOp_ (cA (ha ae s σ H _ I h) fun v s1 qx=>?_);obtain⟨x,H1,I1,r1,q1⟩:=qx;obtain⟨c,rfl,q1⟩:=q1;cases r1;exact not_of (D_ ⟨.bl (!c),H1,I1,rfl,q1⟩)
def ZR(t:TT)(ta tb:TE):TE:=fun σ H Q=>t σ H fun c H1=>if c=true then ta σ H1 Q else tb σ H1 Q
theorem eQ{c:Expr}(hc:PT X c tA)(ha:PE X a ta)(hb:PE X b tb):PE X (.IfExp c a b pos) (ZR tA ta tb):=by
 symm;intro Q I h;refine wpAny_IfExp (cA (hc ae s σ H _ I h) fun d s1 qx=>?_);obtain⟨H1,I1,q1⟩:=qx;cases d with
 | true=>exact ha ae s1 σ H1 Q I1 q1
 | false=>exact hb ae s1 σ H1 Q I1 q1
end
def cz(K:Frag)(H:Hp)(a:Addr)(xs:List V):Prop:=
 Rd H a (.lst xs) \/
  ∃(o:Obj)(its:Array AA)(n:Nat),K.lookup a=some o/\o.cls=.type "list" /\ o.dict=none/\o.data=.seq its n/\its.size<=sizeLine/\Vals xs its.toList
def dU(K:Frag)(H:Hp)(a:Addr)(xs:List V):Prop:=
 Rd H a (.tup xs) \/
  ∃(o:Obj)(its:Array AA)(n:Nat),K.lookup a=some o/\o.cls=.type "tuple" /\ o.data=.seq its n/\its.size<=sizeLine/\Vals xs its.toList
def aey:AA->Option V
 | .none=>some .non
 | .bool b=>some (.bl b)
 | .int i _=>some (.int i)
 | .str x _=>some (.str x)
 | .bytes b _=>some (.M3 b)
 | .float b _=>some (.flt b)
 | .ref a=>some (.ref a)
 | .type n=>some (.ty n)
 | _=>none
theorem RelV.abs{x:V}{u:AA}(r:RelV x u):aey u=some x:=by
 cases x with
 | non=>cases r; rfl
 | bl _=>cases r; rfl
 | int _=>obtain⟨t,rfl⟩:=r; rfl
 | str _=>obtain⟨t,rfl⟩:=r; rfl
 | M3 _=>obtain⟨t,rfl⟩:=r; rfl
 | flt _=>obtain⟨t,rfl⟩:=r; rfl
 | ref _=>cases r; rfl
 | ty _=>cases r; rfl
theorem RelV.inj{x y:V}{u:AA}(r:RelV x u)(q:RelV y u):x=y:=Option.some.inj (r.abs.symm.trans q.abs)
theorem Vals.inj:∀{xs ys:List V}{us:List AA},Vals xs us->Vals ys us->xs=ys
 | _,_,_,.nil,.nil=>rfl
 | _,_,_,.cons r t,.cons r' t'=>by rw[r.inj r',Vals.inj t t']
section
variable{X:Cx}{ae:List (Addr×Obj)}{σ:St}{H:Hp}{s:AB}{a:Addr}{xs ys:List V}
theorem cz.of{K:Frag}(h:H a=some (.lst xs)):cz K H a xs:=.inl (.inl h)
theorem dU.of{K:Frag}(h:H a=some (.tup xs)):dU K H a xs:=.inl (.inl h)
theorem Inv.list(I:Inv X ae σ H s)(h:cz X.K H a xs):∃its:List AA,Vals xs its/\PlainL s.heap a its.toArray/\xs.length<=sizeLine:=by
 rcases h with h | ⟨o,its,n,hk,hc,hd,hs,hz,r⟩
 ·obtain⟨z,its,n,r,e⟩:=h.ok I.hok;exact⟨its,r,⟨_,n,e,rfl,rfl,rfl⟩,z⟩
 ·refine⟨its.toList,r,⟨o,n,I.lg a o hk,hc,hd,by simpa using hs⟩,?_⟩
  have e:=r.length;simp only[Jr] at e;omega
theorem Inv.tuple(I:Inv X ae σ H s)(h:dU X.K H a xs):∃its:List AA,Vals xs its/\IsTup s.heap a its.toArray/\xs.length<=sizeLine:=by
 rcases h with h | ⟨o,its,n,hk,hc,hs,hz,r⟩
 ·obtain⟨z,its,r,p⟩:=h.ok I.hok;exact⟨its,r,p,z⟩
 ·refine⟨its.toList,r,⟨o,I.lg a o hk,hc,n,by simpa using hs⟩,?_⟩
  have e:=r.length;simp only[Jr] at e;omega
theorem Inv.wX(I:Inv X ae σ H s)(h:cz X.K H a xs)(h':cz X.K H a ys):xs=ys:=by
 obtain⟨its,r,⟨o,n,e,_,_,d⟩,_⟩:=I.list h;obtain⟨its',r',⟨o',n',e',_,_,d'⟩,_⟩:=I.list h';rw[e] at e'; cases e';rw[d] at d';injection d' with d1 _
 have:its=its':=by simpa using lJ Array.toList d1
 subst this;exact r.inj r'
theorem Inv.yS(I:Inv X ae σ H s)(h:dU X.K H a xs)(h':dU X.K H a ys):xs=ys:=by
 obtain⟨its,r,⟨o,e,_,n,d⟩,_⟩:=I.tuple h;obtain⟨its',r',⟨o',e',_,n',d'⟩,_⟩:=I.tuple h';rw[e] at e'; cases e';rw[d] at d';injection d' with d1 _
 have:its=its':=by simpa using lJ Array.toList d1
 subst this;exact r.inj r'
end
abbrev Cx.wish(X:Cx)(E:AA->AB->Prop):Cx:={ X with xe:=E }
abbrev Cx.YK(X:Cx):Cx:=X.wish fun _ _=>False
theorem Cx.Ok.wish{X:Cx}(ok:X.Ok)(E:AA->AB->Prop):(X.wish E).Ok:=
 ⟨ok.mod,ok.kind,ok.glob,ok.blt,ok.above,ok.inj,ok.has,ok.cab,ok.hd,ok.frames,ok.Z1,ok.exf,ok.bs,ok.M4,ok.Fi,ok.HD,ok.sZ,ok.VV⟩
theorem Cx.Ok.mY{X:Cx}{E:AA->AB->Prop}(ok:(X.wish E).Ok):X.Ok:=
 ⟨ok.mod,ok.kind,ok.glob,ok.blt,ok.above,ok.inj,ok.has,ok.cab,ok.hd,ok.frames,ok.Z1,ok.exf,ok.bs,ok.M4,ok.Fi,ok.HD,ok.sZ,ok.VV⟩
section
variable{X:Cx}{ae:List (Addr×Obj)}{σ:St}{H:Hp}{s:AB}{E:AA->AB->Prop}
theorem Inv.wish(I:Inv X ae σ H s)(E:AA->AB->Prop):Inv (X.wish E) ae σ H s:=⟨I.ok.wish E,I.os,I.bare,I.base,I.loc,I.cell,I.free,I.jA,I.pin,I.hok,I.len⟩
theorem Inv.mY(I:Inv (X.wish E) ae σ H s):Inv X ae σ H s:=⟨I.ok.mY,I.os,I.bare,I.base,I.loc,I.cell,I.free,I.jA,I.pin,I.hok,I.len⟩
theorem SP.mY{D:Ends}{f:Flow}{s':AB}(h:SP (X.wish E) ae D f s'):SP X ae D f s':=by
 cases f with
 | next=>obtain⟨σ',H',I,q⟩:=h; exact⟨σ',H',I.mY,q⟩
 | brk=>obtain⟨σ',H',I,q⟩:=h; exact⟨σ',H',I.mY,q⟩
 | cont=>obtain⟨σ',H',I,q⟩:=h; exact⟨σ',H',I.mY,q⟩
 | ret u=>obtain⟨v,σ',H',I,r,q⟩:=h; exact⟨v,σ',H',I.mY,r,q⟩
theorem Aj.YK{st:List Stmt}{t:TS}(h:Aj X.YK st t):Aj X st t:=.mk <| fun ae s σ H D I hw=>
 jj (h ae s σ H D (I.wish _) hw) (fun _ _ q=>q.mY) fun _ _ z=>False.elim z
end
section
variable{X:Cx}{st:Stmt}{rest:List Stmt}{t u:TS}{e:Expr}{te:TE}{pos:Pos}
def Vk:TS:=fun D σ H=>D.nx σ H
def rO(t u:TS):TS:=fun D σ H=>t { D with nx:=u D } σ H
theorem bF:Aj X [] Vk:=.mk <| fun _ _ σ H _ I h=>El ⟨σ,H,I,h⟩
theorem aq(h1:PS X st t)(h2:Aj X rest u):Aj X (st::rest) (rO t u):=by
 symm;intro D I h;refine wpAny_execs_cons (cA (h1 ae s σ H { D with nx:=u D } I h) fun f s1 q=>?_)
 cases f with
 | next=>
  obtain⟨σ',H',I',q⟩:=q;exact h2 ae s1 σ' H' D I' q
 | ret v=>exact q
 | brk=>exact q
 | cont=>exact q
theorem aH(h1:PS X st t):Aj X [st] t:=by
 symm;intro D I h;refine wpAny_execs_cons (cA (h1 ae s σ H D I h) fun f s1 q=>?_);cases f with
 | next=>exact El q
 | ret v=>exact q
 | brk=>exact q
 | cont=>exact q
theorem Inv.quiet{ae:List (Addr×Obj)}{σ:St}{H:Hp}{s:AB}(I:Inv X ae σ H s):interactive X.env=false:=by simp[interactive,I.ok.kind]
def Vo(te:TE):TS:=fun D σ H=>te σ H fun _ H1=>D.nx σ H1
theorem cT(he:PE X e te)(hs: ~~~(swapsWith e none pos.line X.env=pure false)):PS X (.Expr e pos) (Vo te):=by
 symm;intro D I h;exact wpAny_Expr_any (cA (he ae s σ H _ I h) fun v s1 ⟨x,H1,I1,r1,q1⟩=>⟨σ,H1,I1,q1⟩) I.quiet hs
def ZK(te:TE):TS:=fun D σ H=>te σ H D.rt
theorem a_(he:PE X e te):PS X (.Return (some e) pos) (ZK te):=by
 symm;intro D I h;exact wpAny_Return_some (cA (he ae s σ H _ I h) fun v s1 ⟨x,H1,I1,r1,q1⟩=>⟨x,σ,H1,I1,r1,q1⟩)
def ZJ:TS:=fun D _ H=>D.rt .non H
def R5(c:TT)(t u:TS):TS:=fun D σ H=>c σ H fun b H1=>if b=true then t D σ H1 else u D σ H1
theorem cM{c:Expr}{a b:List Stmt}{tc:TT}(hc:PT X c tc)(ha:Aj X a t)(hb:Aj X b u):PS X (.If c a b pos) (R5 tc t u):=by
 symm;intro D I h;refine wpAny_If (cA (hc ae s σ H _ I h) fun d s1 qx=>?_);obtain⟨H1,I1,q1⟩:=qx;cases d with
 | true=>exact ha ae s1 σ H1 D I1 q1
 | false=>exact hb ae s1 σ H1 D I1 q1
end
abbrev TG:=V->St->Hp->(St->Hp->Prop)->Prop
abbrev Rm:=List V->St->Hp->(St->Hp->Prop)->Prop
structure PG(X:Cx)(target:Expr)(t:TG):Prop where
 mk ::
 go :
 ∀(ae:List (Addr×Obj))(s:AB)(σ:St)(H:Hp)(v:V)(u:AA)(Q:St->Hp->Prop),Inv X ae σ H s->RelV v u->t v σ H Q ->
  wpAny (model X.prog X.w) X.A (assign target X.env u) (fun _ s'=>∃σ' H',Inv X ae σ' H' s'/\Q σ' H') X.xe s
instance {X:Cx} {target:Expr} {t:TG}:CoeFun (PG X target t) (fun _=>
 ∀(ae:List (Addr×Obj))(s:AB)(σ:St)(H:Hp)(v:V)(u:AA)(Q:St->Hp->Prop),Inv X ae σ H s->RelV v u->t v σ H Q ->
  wpAny (model X.prog X.w) X.A (assign target X.env u) (fun _ s'=>∃σ' H',Inv X ae σ' H' s'/\Q σ' H') X.xe s):=⟨PG.go⟩
structure Yp(X:Cx)(ts:List Expr)(t:Rm):Prop where
 mk ::
 go :
 ∀(ae:List (Addr×Obj))(s:AB)(σ:St)(H:Hp)(vs:List V)(us:List AA)(Q:St->Hp->Prop),Inv X ae σ H s->Vals vs us->t vs σ H Q ->
  wpAny (model X.prog X.w) X.A (assignInOrder ((assignEach ts X.env).map (·.2)) us) (fun _ s'=>∃σ' H',Inv X ae σ' H' s'/\Q σ' H') X.xe s
instance {X:Cx} {ts:List Expr} {t:Rm}:CoeFun (Yp X ts t) (fun _=>
 ∀(ae:List (Addr×Obj))(s:AB)(σ:St)(H:Hp)(vs:List V)(us:List AA)(Q:St->Hp->Prop),Inv X ae σ H s->Vals vs us->t vs σ H Q ->
  wpAny (model X.prog X.w) X.A (assignInOrder ((assignEach ts X.env).map (·.2)) us) (fun _ s'=>∃σ' H',Inv X ae σ' H' s'/\Q σ' H') X.xe s):=⟨Yp.go⟩
abbrev M7:=V->V->V->Hp->(Hp->Prop)->Prop
structure M_(X:Cx)(t:M7):Prop where
 mk ::
 go :
 ∀(ae:List (Addr×Obj))(s:AB)(σ:St)(H:Hp)(o i v:V)(ov iv u:AA)(Q:Hp->Prop),Inv X ae σ H s->RelV o ov->RelV i iv->RelV v u->t o i v H Q ->
  wpAny (model X.prog X.w) X.A (setItem ov iv u) (fun _ s'=>∃H',Inv X ae σ H' s'/\Q H') X.xe s
instance {X:Cx} {t:M7}:CoeFun (M_ X t) (fun _=>
 ∀(ae:List (Addr×Obj))(s:AB)(σ:St)(H:Hp)(o i v:V)(ov iv u:AA)(Q:Hp->Prop),Inv X ae σ H s->RelV o ov->RelV i iv->RelV v u->t o i v H Q ->
  wpAny (model X.prog X.w) X.A (setItem ov iv u) (fun _ s'=>∃H',Inv X ae σ H' s'/\Q H') X.xe s):=⟨M_.go⟩
abbrev Ze:=V->V->Hp->VK->Prop
def PIp(X:Cx)(op:Operator)(t:Ze):Prop:=
 ∀(ae:List (Addr×Obj))(s:AB)(σ:St)(H:Hp)(x y:V)(v u:AA)(Q:VK),Inv X ae σ H s->RelV x v->RelV y u->t x y H Q ->
  wpAny (model X.prog X.w) X.A (inplaceOp op v u) (EP X ae σ Q) X.xe s
section
variable{X:Cx}{pos:Pos}
def fj(i:Nat):TG:=fun v σ H Q=>Q (σ.set i (some v)) H
theorem aF{i:Nat}{x:Str}(hN: autoParam (X.N.Nodup) ze._auto_1)(hi: ~~~(X.N[i]?=some x))(hx: autoParam (Loc X.env.scope x) zf._auto_1)(hf: autoParam (X.fn x=true\/X.env.scope.names.lookup x=some .local) zd._auto_1):PG X (.Name x pos) (fj i):=by
 symm;intro v u Q I r h;exact wpAny_assign_Name (iw I hN hi hx r (fun s' I'=>⟨_,H,I',h⟩) hf)
theorem aFN (L:List Str) (i:Nat){x:Str}(hN: ~~~(X.N=L))(hd:(L.Nodup)⁻¹)(hi: ~~~(L[i]?=some x))(hx:Loc X.env.scope x:=by exact .inl (fJ rfl))(hf:X.fn x=true\/X.env.scope.names.lookup x=some .local:=by exact .inr (fJ rfl)):PG X (.Name x pos) (fj i):=aF (by rw[hN]; exact hd) (by rw[hN]; exact hi) hx hf
def Cp:Rm:=fun vs σ H Q=>match vs with
 | []=>Q σ H
 | _=>False
theorem Cp.ex{vs:List V}{σ:St}{H:Hp}{Q:St->Hp->Prop}(h:Cp vs σ H Q):vs=[]/\Q σ H:=by
 cases vs with
 | nil=>exact⟨rfl,h⟩
 | cons a b=>exact h.elim
def jQ(t:TG)(u:Rm):Rm:=fun vs σ H Q=>match vs with
 | v::r=>t v σ H fun σ' H'=>u r σ' H' Q
 | []=>False
theorem jQ.ex{t:TG}{u:Rm}{vs:List V}{σ:St}{H:Hp}{Q:St->Hp->Prop}(h:jQ t u vs σ H Q):∃v r,vs=v::r/\t v σ H fun σ' H'=>u r σ' H' Q:=by
 cases vs with
 | nil=>exact h.elim
 | cons a b=>exact⟨a,b,rfl,h⟩
theorem bO:Yp X [] Cp:=by
 symm;intro vs us Q I r h;obtain⟨e,h⟩:=Cp.ex h;subst e;cases r;exact assignInOrder_nil ⟨σ,H,I,h⟩
theorem aD{e:Expr}{es:List Expr}{t:TG}{u:Rm}(h1:PG X e t)(h2:Yp X es u)
  (hs: ~~~((assignEach (e::es) X.env).map (·.2)=assign e X.env::(assignEach es X.env).map (·.2))):Yp X (e::es) (jQ t u):=by
 symm;intro vs us Q I r h;obtain⟨v,vr,e1,h⟩:=jQ.ex h;subst e1;cases r with
 | cons r rr=>
  rw[hs];refine assignInOrder_cons (cA (h1 ae s σ H _ _ _ I r h) fun _ s1 qx=>?_);obtain⟨σ1,H1,I1,q1⟩:=qx;exact h2 ae s1 σ1 H1 _ _ Q I1 rr q1
def Mp(K:Frag)(n:Nat)(t:Rm):TG:=fun v σ H Q=>∃a xs,v=.ref a/\dU K H a xs/\xs.length=n/\t xs σ H Q
theorem Xa{es:List Expr}{k:Nat}{t:Rm}{n:Nat}(hc:X.calm=true)(h:Yp X es t)
  (hn: ~~~((assignEach es X.env).length=n)) (hst: ~~~((assignEach es X.env).findIdx? (·.1)=none)):PG X (.Tuple es k pos) (Mp X.K n t):=by
 symm;intro v u Q I r hw;obtain⟨a,xs,e1,hq,hl,hw⟩:=hw;subst e1;cases r;obtain⟨its,rv,ht,hz⟩:=I.tuple hq;refine assign_Tuple_tuple (I.ok.hd hc) ht (by simp[hn,<- hl,rv.length]) hst fun h' hx=>?_
 have I1:Inv X ae σ H { s with heap:=h' }:=I.kept (t':=s.toks) fun b o e=>hx b o (cZ (bI e)) e
 exact h ae _ σ H xs _ Q I1 (by simpa using rv) hw
def aa4(to ti:TE)(t:M7):TG:=fun v σ H Q=>to σ H fun o H1=>ti σ H1 fun i H2=>t o i v H2 fun H3=>Q σ H3
theorem nD{o i:Expr}{to ti:TE}{t:M7}(ho:PE X o to)(hi:PE X i ti)(hs:M_ X t)
  (ha:‹∀v,assign (.Subscript o i pos) X.env v=(do
   let ov <- holding [v] (eval o X.env)
   let iv <- holding [v,ov] (eval i X.env)
   standAt pos
   holding [v,ov,iv] (setItem ov iv v)
   release [v,ov,iv] [])›):PG X (.Subscript o i pos) (aa4 to ti t):=by
 symm;intro v u Q I r h;rw[ha];refine aL (kY (cA (ho ae s σ H _ I h) fun ov s1 qx=>?_));obtain⟨x,H1,I1,r1,q1⟩:=qx;refine aL (kY (cA (hi ae s1 σ H1 _ I1 q1) fun iv s2 qx=>?_));obtain⟨y,H2,I2,r2,q2⟩:=qx;refine aL (Be (aL (kY (cA (hs ae s2 σ H2 x y v ov iv u _ I2 r1 r2 r q2) fun _ s3 qx=>?_))));obtain⟨H3,I3,q3⟩:=qx;exact wpAny_release ⟨σ,H3,I3,q3⟩
def Aq(te:TE)(g:TG):TS:=fun D σ H=>te σ H fun x H1=>g x σ H1 D.nx
theorem dF{tg e:Expr}{te:TE}{g:TG}(he:PE X e te)(hg:PG X tg g)(hs: ~~~(swapsWithSole [tg] e pos.line X.env=pure false))(hw: ~~~(swappedStores [tg] e X.env=pure none))
  (h1: ~~~((assignEach [tg] X.env).map (·.2)=[assign tg X.env])):PS X (.Assign [tg] e pos) (Aq te g):=by
 symm;intro D I h;refine wpAny_Assign_stores (cA (he ae s σ H _ I h) fun v s1 ⟨x,H1,I1,r1,q1⟩=>?_) hs hw;rw[h1];exact cA (hg ae s1 σ H1 x v _ I1 r1 q1) fun _ s2 q=>q
theorem aU{i:Nat}{x:Str}{e:Expr}{te:TE}{pos':Pos}(he:PE X e te)(hN: autoParam (X.N.Nodup) ze._auto_1)(hi: ~~~(X.N[i]?=some x))(hx: autoParam (Loc X.env.scope x) zf._auto_1)(hs: ~~~(swapsWith e (some (.Name x pos')) pos.line X.env=pure false))(hf: autoParam (X.fn x=true\/X.env.scope.names.lookup x=some .local) zd._auto_1) :
  PS X (.Assign [.Name x pos'] e pos) (Aq te (fj i)):=by
 symm;intro D I h;refine wpAny_Assign_Name (cA (he ae s σ H _ I h) fun v s1 ⟨y,H1,I1,r1,q1⟩=>?_) hs;exact iw I1 hN hi hx r1 (fun s2 I2=>⟨_,H1,I2,q1⟩) hf
def ZM(i j:Nat)(ta:TA):TS:=fun D σ H=>ta σ H fun vs H1=>∃v w,vs=[v,w]/\D.nx ((σ.set i (some v)).set j (some w)) H1
theorem Bo{i j:Nat}{x y:Str}{a b:Expr}{ta:TA}{px py pt:Pos}{kt k2 WT}(hc:X.calm=true)(hN:X.N.Nodup)(hi:X.N[i]?=some x)(hj:X.N[j]?=some y)(hij:i≠j)
  (hx:X.env.scope.names.lookup x=some .local) (hy:X.env.scope.names.lookup y=some .local) (ha:PA X [a,b] ta)
  (hw:swappedStores [.Tuple [.Name x px,.Name y py] kt pt] (.Tuple [a,b] k2 WT) X.env=pure (some [x,y]))
  (hs: ~~~(swapsWithSole [.Tuple [.Name x px,.Name y py] kt pt] (.Tuple [a,b] k2 WT) pos.line X.env=pure false)) :
  PS X (.Assign [.Tuple [.Name x px,.Name y py] kt pt] (.Tuple [a,b] k2 WT) pos) (ZM i j ta):=by
 symm;intro D I h;rw[exec_Assign_arm];refine aL (Be ?_);rw[hs];refine aL (bL ?_);rw[aN ⋯]
 refine aL (Tuple_ (cA (ha _ ae s σ H _ I h) fun us s1 qx=>?_));obtain⟨vs,H1,I1,r1,q1⟩:=qx;obtain⟨v,w,e1,q1⟩:=q1;subst e1
 obtain⟨u1,u2,rfl,rv,Bb⟩:∃u1 u2,us=[u1,u2]/\RelV v u1/\RelV w u2:=by
  cases r1 with
  | cons p q=>
   cases q with
   | cons p' q'=>
    cases q';exact⟨_,_,rfl,p,p'⟩
 refine qP ?_ (by show 2<=sizeLine; decide)
 have I2:Inv X ae σ H1 { s1 with heap:=s1.heap.push { cls:=.type "tuple",data:=.seq [u1,u2].toArray } }:=I1.kept (t':=s1.toks) fun b o e=>cU _ e
 rw[hw];refine aL (bL ?_);show wpAny (model X.prog X.w) X.A (do rule "assign.swapped-stores"; let items <- unpackItems (.ref s1.heap.objs.size) 2 none; assignInOrder [fun v=>bindName X.env y v,fun v=>bindName X.env x v] items.reverse; pure Flow.next) _ _ _
 refine aL (ur (aL (unpackItems_tuple (items:=#[u1,u2]) (I.ok.hd hc) (IsTup.new s1.heap _) fun h' hx'=>?_)));have I3:=I2.kept (h':=h') (t':=s1.toks) fun b o e=>hx' b o (cZ (bI e)) e;show wpAny _ _ (assignInOrder [fun v=>bindName X.env y v,fun v=>bindName X.env x v] [u2,u1] >>= fun _=>pure Flow.next) _ _ _;refine aL (assignInOrder_cons (Eg (iw I3 hN hj (.inl hy) Bb (fun s2 I4=>?_) (.inr hy))));refine assignInOrder_cons (Eg (iw I4 hN hi (.inl hx) rv (fun s3 I5=>assignInOrder_nil (bL ?_)) (.inr hx)));rw[List.set_comm _ _ (Ne.symm hij)] at I5;exact⟨_,H1,I5,q1⟩
def ZW(i:Nat)(te:TE)(ti:Ze):TS:=fun D σ H=>∃x,σ[i]?=some (some x)/\te σ H fun y H1=>ti x y H1 fun z H2=>D.nx (σ.set i (some z)) H2
theorem Bp{i:Nat}{x:Str}{e:Expr}{te:TE}{op:Operator}{ti:Ze}{pos':Pos}(hN:X.N.Nodup)(hi:X.N[i]?=some x)(hx:Loc X.env.scope x)(he:PE X e te)(ho:PIp X op ti)(hf: autoParam (X.fn x=true\/X.env.scope.names.lookup x=some .local) zd._auto_1) :
  PS X (.AugAssign (.Name x pos') op e pos) (ZW i te ti):=by
 symm;intro D I h;obtain⟨v,e1,h⟩:=h;obtain⟨m,hn,hl⟩:=I.loc;have vis:Vis X.env.scope x:=by rcases hx with k | k; exact .inl k; exact .inr (.inl k)
 obtain⟨u,r,l⟩:=hl i x v hi e1 vis;refine wpAny_AugAssign_Name ?_
 have go:wpAny (model X.prog X.w) X.A (eval e X.env) (fun w s₂=>wpAny (model X.prog X.w) X.A (inplaceOp op u w) (fun r s₃=>wpAny (model X.prog X.w) X.A (storeName X.env x r) (fun _=>SP X ae D .next) X.xe s₃) X.xe s₂) X.xe s:=by
  refine cA (he ae s σ H _ I h) fun w s1 qx=>?_;obtain⟨y,H1,I1,r1,q1⟩:=qx;refine cA (ho ae s1 σ H1 v y u w _ I1 r r1 q1) fun z s2 qx=>?_;obtain⟨zv,H2,I2,r2,q2⟩:=qx;exact iw I2 hN hi hx r2 (fun s3 I3=>⟨_,H2,I3,q2⟩) hf
 rcases l with⟨hk,hm⟩ | ⟨hk,c,hc,hcell⟩
 ·exact wpAny_loadName_local I.ok.kind hk hn hm go
 ·rcases hk with hk | hk
  ·exact wpAny_loadName_cell I.ok.kind hk hc hcell go
  ·rcases hx with k | k
   ·have:X.env.scope.names.lookup x=some .free:=hk;rw[k] at this; cases this
   ·have:X.env.scope.names.lookup x=some .free:=hk;rw[k] at this; cases this
def Vp(to ti te:TE)(R1:V->V->Hp->VK->Prop)(tip:Ze)(RZ:M7):TS:=fun D σ H=>to σ H fun o H1=>ti σ H1 fun i H2=>R1 o i H2 fun x H3=>te σ H3 fun y H4=>tip x y H4 fun z H5=>RZ o i z H5 fun H6=>D.nx σ H6
def abv(X:Cx)(t:V->V->Hp->VK->Prop):Prop:=
 ∀(ae:List (Addr×Obj))(s:AB)(σ:St)(H:Hp)(o i:V)(ov iv:AA)(Q:VK),Inv X ae σ H s->RelV o ov->RelV i iv->t o i H Q ->
  wpAny (model X.prog X.w) X.A (getItem ov iv) (EP X ae σ Q) X.xe s
theorem S_{o i e:Expr}{to ti te:TE}{R1:V->V->Hp->VK->Prop}{tip:Ze}{RZ:M7}{op:Operator}{tpos:Pos}(ho:PE X o to)(hi:PE X i ti)(hg:abv X R1)(he:PE X e te)(hp:PIp X op tip)(hs:M_ X RZ)
  (ha:∀ov iv new,augStore i ov iv new=(do holding [new,ov,iv] (setItem ov iv new); release [new,ov,iv] []; pure .next):=by intros; rfl):PS X (.AugAssign (.Subscript o i tpos) op e pos) (Vp to ti te R1 tip RZ):=by
 symm;intro D I h;refine wpAny_AugAssign_SubscriptAny (cA (ho ae s σ H _ I h) fun ov s1 ⟨x1,H1,I1,r1,q1⟩=>?_) ha;refine cA (hi ae s1 σ H1 _ I1 q1) fun iv s2 qx=>?_;obtain⟨x2,H2,I2,r2,q2⟩:=qx;refine cA (hg ae s2 σ H2 x1 x2 ov iv _ I2 r1 r2 q2) fun old s3 qx=>?_;obtain⟨x3,H3,I3,r3,q3⟩:=qx;refine cA (he ae s3 σ H3 _ I3 q3) fun v s4 qx=>?_;obtain⟨x4,H4,I4,r4,q4⟩:=qx;refine cA (hp ae s4 σ H4 x3 x4 old v _ I4 r3 r4 q4) fun new s5 qx=>?_;obtain⟨x5,H5,I5,r5,q5⟩:=qx;exact cA (hs ae s5 σ H5 x1 x2 x5 ov iv new _ I5 r1 r2 r5 q5) fun _ s6 ⟨H6,I6,q6⟩=>⟨σ,H6,I6,q6⟩
def ipI(f:Int->Int->Int):Ze:=fun x y H Q=>∃i j,x=.int i/\y=.int j/\Q (.int (f i j)) H
theorem Qy:PIp X .Add (ipI fun i j=>i+j):=by
 intro ae s σ H x y v u Q I r1 r2 h;obtain⟨i,j,e1,e2,q⟩:=h;subst e1; subst e2;obtain⟨t,rfl⟩:=r1;obtain⟨t',rfl⟩:=r2;exact iadd_int ⟨.int _,H,I.tok _,⟨_,rfl⟩,q⟩
theorem Ht:PIp X .Sub (ipI fun i j=>i-j):=by
 intro ae s σ H x y v u Q I r1 r2 h;obtain⟨i,j,e1,e2,q⟩:=h;subst e1; subst e2;obtain⟨t,rfl⟩:=r1;obtain⟨t',rfl⟩:=r2;exact isub_int ⟨.int _,H,I.tok _,⟨_,rfl⟩,q⟩
end
section
variable{X:Cx}{pos:Pos}
end
structure It where
 go:Nat->Hp->Prop
 Dm:Nat->Hp->V->Hp->Prop
 stop:Nat->Hp->Prop
def eE(X:Cx)(ae:List (Addr×Obj))(H:Hp)(b:Addr):Prop:=
 H b=none/\b≠X.env.locals/\b∉X.fs/\(b∈X.ex\/X.s₀.heap.objs.size<=b)/\(∀x c,X.env.cells.lookup x=some c->c≠b)/\∀p∈X.pn++ae,p.1≠b
theorem Inv.nR{X:Cx}{ae:List (Addr×Obj)}{σ:St}{H H':Hp}{s:AB}{b:Addr}(I:Inv X ae σ H s)(hb:s.heap.objs.size<=b)(hn:H' b=none):eE X ae H' b:=by
 refine⟨hn,xY (nC I.lt hb),I.adk hb,.inr (jJ I.sz hb),fun x c e z=>?_,fun p hp z=>?_⟩
 ·obtain⟨v,q⟩:=I.cell x c e;exact absurd (nC q.lt (by rw[z]; exact hb)) (pU _)
 ·exact absurd (nC (bI (I.pin p hp).1) (by rw[z]; exact hb)) (pU _)
structure Turn(P:AC)(w:World)(K:Frag)(tg:Expr)(J:It)(fp:List Addr)(it:Addr)(tn:Nat->Heap->Prop):Prop where
 mem:it∈fp
 obj:∀i h,tn i h->∀b∈fp,∃o,h.get? b=some o/\∀v,o.data≠.cell v
 keep:∀i h h',tn i h->(∀b∈fp,∀o,h.get? b=some o->h'.get? b=some o)->tn i h'
 item:∀(X:Cx),X.prog=P->X.w=w->X.K=K->X.calm=true->∀(i:Nat)(ae:List (Addr×Obj))(s:AB)(σ:St)(H:Hp)(E:AA->AB->Prop),Inv X ae σ H s->(∀b∈fp,eE X ae H b)->tn i s.heap->J.go i H ->
  wpAny (model P w) X.A (pyNext (.ref it)) (fun r s1=>∃u,r=some u /\
   wpAny (model P w) X.A (letOwnedTupleGo tg (.ref it) u) (fun _ s2=>∃x H',Inv X ae σ H' s2/\RelV x u/\J.Dm i H x H'/\tn (i+1) s2.heap/\∀b∈fp,H' b=none) E s1) E s
 done:∀(X:Cx),X.prog=P->X.w=w->X.K=K->X.calm=true->∀(i:Nat)(ae:List (Addr×Obj))(s:AB)(σ:St)(H:Hp)(E:AA->AB->Prop),Inv X ae σ H s->(∀b∈fp,eE X ae H b)->tn i s.heap->J.stop i H ->
  wpAny (model P w) X.A (pyNext (.ref it)) (fun r s1=>r=none/\Inv X ae σ H s1) E s
 self:∀(A:Around)(i:Nat)(s:AB)(Q:AA->AB->Prop)(E:AA->AB->Prop),tn i s.heap->Q (.ref it) s->wpAny (model P w) A (pyIter (.ref it)) Q E s
abbrev TI:=St->Hp->(It->Hp->Prop)->Prop
def PIE(X:Cx)(ae:List (Addr×Obj))(σ:St)(tg:Expr)(R:It->Hp->Prop)(itv:AA)(s2:AB):Prop:=
 ∃(it:Addr)(fp:List Addr)(tn:Nat->Heap->Prop)(J:It)(H':Hp),itv=.ref it/\Inv X ae σ H' s2/\Turn X.prog X.w X.K tg J fp it tn/\tn 0 s2.heap/\(∀b∈fp,eE X ae H' b)/\R J H'
structure PI(X:Cx)(tg iter:Expr)(wi:TI):Prop where
 mk ::
 go :
 ∀(ae:List (Addr×Obj))(s:AB)(σ:St)(H:Hp)(R:It->Hp->Prop),Inv X ae σ H s->wi σ H R ->
  wpAny (model X.prog X.w) X.A (eval iter X.env) (fun v s1=>wpAny (model X.prog X.w) X.A (pyIter v) (PIE X ae σ tg R) X.xe s1) X.xe s
instance {X:Cx} {tg iter:Expr} {wi:TI}:CoeFun (PI X tg iter wi) (fun _=>
 ∀(ae:List (Addr×Obj))(s:AB)(σ:St)(H:Hp)(R:It->Hp->Prop),Inv X ae σ H s->wi σ H R ->
  wpAny (model X.prog X.w) X.A (eval iter X.env) (fun v s1=>wpAny (model X.prog X.w) X.A (pyIter v) (PIE X ae σ tg R) X.xe s1) X.xe s):=⟨PI.go⟩
theorem xm{M:Model}{A:Around}{E:AA->AB->Prop}{s:AB}{tg:Expr}{it:Addr}{u:AA}{o:Obj}{n:String}{vs:Array AA}{Q:Unit->AB->Prop}(ho:s.heap.get? it=some o)(hc:o.cls=.type n)(hd:o.data=.fields vs)
  (hn:["enumerate","zip","dict_itemiterator","dict_reverseitemiterator","odict_iterator","itertools.zip_longest","itertools.pairwise"].contains n=false) (hQ:Q () s):wpAny M A (letOwnedTupleGo tg (.ref it) u) Q E s:=by
 unfold letOwnedTupleGo;cases tg <;> first
  | exact bL hQ
  | (cases u <;> first
    | exact bL hQ
    | (refine aL (wpAny_load ho ?_)
       rw[hc,hd];show wpAny M A (if(["enumerate","zip","dict_itemiterator","dict_reverseitemiterator","odict_iterator","itertools.zip_longest","itertools.pairwise"].contains n&&vs[0]?==some (rawInt _))=true then _ else _) Q E s
       rw[aN (by intro h; rw[hn,Bool.false_and] at h; cases h)]
       exact bL hQ))
def Wa(K:Frag)(a:Addr):It:=
 ⟨fun i H=>∃xs x,cz K H a xs/\xs[i]?=some x,fun i H x H'=>H'=H/\∀xs,cz K H a xs->xs[i]?=some x,fun i H=>∃xs,cz K H a xs/\xs.length<=i⟩
def V_(K:Frag)(a:Addr):It:=
 ⟨fun i H=>∃xs x,dU K H a xs/\xs[i]?=some x,fun i H x H'=>H'=H/\∀xs,dU K H a xs->xs[i]?=some x,fun i H=>∃xs,dU K H a xs/\xs.length<=i⟩
def Nr(lo:Int)(n:Nat):It:=⟨fun i _=>i<n,fun i H x H'=>H'=H/\x=.int (lo+i),fun i _=>n<=i⟩
theorem KH{P:AC}{w:World}{K:Frag}{tg:Expr}(a it:Addr):Turn P w K tg (Wa K a) [it] it (fun i h=>h.IsListIter it a i) where
 mem:=by simp
 obj:=fun i h st b hb=>by
  have e:b=it:=by simpa using hb
  subst e;obtain⟨o,e,c,d⟩:=st;exact⟨o,e,fun v z=>by rw[d] at z; cases z⟩
 keep:=fun i h h' st k=>st.at fun o e=>k it (by simp) o e
 item:=by
  intro X hP hw hK hc i ae s σ H E I hf st hg;subst hP hw hK;obtain⟨xs,x,hq,hx⟩:=hg;obtain⟨its,rv,p,hz⟩:=I.list hq;obtain⟨u,hu,ru⟩:=rv.get hx;obtain⟨f0,f1,f2,f3,f4,f5⟩:=hf it (by simp)
  refine wpAny_pyNext_list_item st p.isList (x:=u) (by simpa using hu) fun h' st' sb=>?_
  have I1:Inv X ae σ H { s with heap:=h' }:=I.turned (t':=s.toks) (fun b o hb e=>(sb.2 b hb).trans e) f0 f1 f3 f4 f5
  obtain⟨o,e,c,d⟩:=id st';exact⟨u,rfl,xm (s:={ s with heap:=h' }) e c d ⋯ ⟨x,H,I1,ru,⟨rfl,fun ys hy=>by rw[I.wX hy hq]; exact hx⟩,st',fun b hb=>(hf b hb).1⟩⟩
 done:=by
  intro X hP hw hK hc i ae s σ H E I hf st hg;subst hP hw hK;obtain⟨xs,hq,hx⟩:=hg;obtain⟨its,rv,p,hz⟩:=I.list hq;obtain⟨f0,f1,f2,f3,f4,f5⟩:=hf it (by simp)
  have hl:=rv.length;exact wpAny_pyNext_list_end (I.ok.hd hc) st p.isList (by simp; omega) fun h' eb=>⟨rfl,I.turned (t':=s.toks) (fun b o hb e=>eb b o hb e) f0 f1 f3 f4 f5⟩
 self:=fun _ _ _ _ _ st h=>wpAny_pyIter_listiter st h
theorem Gr{P:AC}{w:World}{K:Frag}{tg:Expr}(a it:Addr):Turn P w K tg (V_ K a) [it] it (fun i h=>h.IsTupleIter it a i) where
 mem:=by simp
 obj:=fun i h st b hb=>by
  have e:b=it:=by simpa using hb
  subst e;obtain⟨o,e,c,d⟩:=st;exact⟨o,e,fun v z=>by rw[d] at z; cases z⟩
 keep:=fun i h h' st k=>st.at fun o e=>k it (by simp) o e
 item:=by
  intro X hP hw hK hc i ae s σ H E I hf st hg;subst hP hw hK;obtain⟨xs,x,hq,hx⟩:=hg;obtain⟨its,rv,p,hz⟩:=I.tuple hq;obtain⟨u,hu,ru⟩:=rv.get hx;obtain⟨f0,f1,f2,f3,f4,f5⟩:=hf it (by simp)
  refine wpAny_pyNext_tuple_item st (show s.heap.IsTuple a its.toArray from p) (x:=u) (by simpa using hu) fun h' st' sb=>?_
  have I1:Inv X ae σ H { s with heap:=h' }:=I.turned (t':=s.toks) (fun b o hb e=>(sb.2 b hb).trans e) f0 f1 f3 f4 f5
  obtain⟨o,e,c,d⟩:=id st';exact⟨u,rfl,xm (s:={ s with heap:=h' }) e c d ⋯ ⟨x,H,I1,ru,⟨rfl,fun ys hy=>by rw[I.yS hy hq]; exact hx⟩,st',fun b hb=>(hf b hb).1⟩⟩
 done:=by
  intro X hP hw hK hc i ae s σ H E I hf st hg;subst hP hw hK;obtain⟨xs,hq,hx⟩:=hg;obtain⟨its,rv,p,hz⟩:=I.tuple hq;obtain⟨f0,f1,f2,f3,f4,f5⟩:=hf it (by simp)
  have hl:=rv.length;exact wpAny_pyNext_tuple_end (I.ok.hd hc) st (show s.heap.IsTuple a its.toArray from p) (by simp; omega) fun h' eb=>⟨rfl,I.turned (t':=s.toks) (fun b o hb e=>eb b o hb e) f0 f1 f3 f4 f5⟩
 self:=fun _ _ _ _ _ st h=>wpAny_pyIter_tupleiter st h
theorem Gu{P:AC}{w:World}{K:Frag}{tg:Expr}(it:Addr)(lo:Int)(n:Nat):Turn P w K tg (Nr lo n) [it] it (fun i h=>IsRangeIter h it (lo+(i:Nat)*1) ((n:Int)-(i:Nat)) 1) where
 mem:=by simp
 obj:=fun i h st b hb=>by
  have e:b=it:=by simpa using hb
  subst e
  exact⟨_,st,fun v z=>by
   have z':Data.fields _=Data.cell v:=z
   cases z'⟩
 keep:=fun i h h' st k=>k it (by simp) _ st
 item:=by
  intro X hP hw hK hc i ae s σ H E I hf st hg;subst hP hw hK;obtain⟨f0,f1,f2,f3,f4,f5⟩:=hf it (by simp)
  have W:=Walks.range (prog:=X.prog) (w:=X.w) (I.ok.hd hc) it lo 1 n;refine W.item i s _ _ hg st fun v h' tk hv st' kk=>?_;obtain⟨t,rfl⟩:=hv;have I1:Inv X ae σ H { s with heap:=h',toks:=tk }:=I.turned (fun b o hb e=>kk b o (by simpa using hb) e) f0 f1 f3 f4 f5
  refine⟨_,rfl,xm (s:={ s with heap:=h',toks:=tk }) (n:="range_iterator") st' rfl rfl ⋯ ⟨.int (lo+i),H,I1,⟨t,?_⟩,⟨rfl,rfl⟩,st',fun b hb=>(hf b hb).1⟩⟩
  rw[Int.mul_one]
 done:=by
  intro X hP hw hK hc i ae s σ H E I hf st hg;subst hP hw hK;obtain⟨f0,f1,f2,f3,f4,f5⟩:=hf it (by simp)
  exact wpAny_pyNext_range_end (I.ok.hd hc) st (by have:n<=i:=hg; omega) fun h' eb=>⟨rfl,I.turned (t':=s.toks) (fun b o hb e=>eb b o hb e) f0 f1 f3 f4 f5⟩
 self:=fun _ _ _ _ _ st h=>Ph st h
section
variable{X:Cx}{tg:Expr}
def nJ(K:Frag)(tl:TE):TI:=fun σ H R=>tl σ H fun x H1=>∃a,x=.ref a/\(∃xs,cz K H1 a xs)/\R (Wa K a) H1
def Ft(K:Frag)(tl:TE):TI:=fun σ H R=>tl σ H fun x H1=>∃a,x=.ref a/\(∃xs,dU K H1 a xs)/\R (V_ K a) H1
theorem Th{l:Expr}{tl:TE}(hl:PE X l tl):PI X tg l (nJ X.K tl):=by
 symm;intro R I h;refine cA (hl ae s σ H _ I h) fun v s1 qx=>?_;obtain⟨x,H1,I1,r1,q1⟩:=qx;obtain⟨a,e,⟨xs,hq⟩,q⟩:=q1;subst e;cases r1;obtain⟨its,rv,p,hz⟩:=I1.list hq;refine DY p.isList ?_;refine⟨s1.heap.objs.size,[s1.heap.objs.size],_,_,H1,rfl,I1.kept (t':=s1.toks) fun b o e=>cU _ e,KH a _,⟨_,cI _ rfl,rfl,rfl⟩,fun b hb=>?_,q⟩;have e:b=s1.heap.objs.size:=by simpa using hb
 subst e;exact I1.nR (bc _) (I1.hok.fresh (bc _))
theorem WY{l:Expr}{tl:TE}(hl:PE X l tl):PI X tg l (Ft X.K tl):=by
 symm;intro R I h;refine cA (hl ae s σ H _ I h) fun v s1 qx=>?_;obtain⟨x,H1,I1,r1,q1⟩:=qx;obtain⟨a,e,⟨xs,hq⟩,q⟩:=q1;subst e;cases r1;obtain⟨its,rv,p,hz⟩:=I1.tuple hq;refine Ep (show s1.heap.IsTuple a its.toArray from p) ?_;refine⟨s1.heap.objs.size,[s1.heap.objs.size],_,_,H1,rfl,I1.kept (t':=s1.toks) fun b o e=>cU _ e,Gr a _,⟨_,cI _ rfl,rfl,rfl⟩,fun b hb=>?_,q⟩;have e:b=s1.heap.objs.size:=by simpa using hb
 subst e;exact I1.nR (bc _) (I1.hok.fresh (bc _))
theorem Pa{ae:List (Addr×Obj)}{σ:St}{H:Hp}{s:AB}{R:It->Hp->Prop}{E:AA->AB->Prop}{lo hi:Int}{t u v:Tok}{tk:Nat}(I:Inv X ae σ H s)(h1:-(2 ^ 62)<=lo)(h2:lo<2 ^ 62)(h3:-(2 ^ 62)<=hi)(h4:hi<2 ^ 62)
  (q:R (Nr lo (hi-lo).toNat) H):wpAny (model X.prog X.w) X.A (pyIter (.ref s.heap.objs.size)) (PIE X ae σ tg R) E { s with heap:=s.heap.push { cls:=.type "range",data:=.fields #[.int lo t,.int hi u,.int 1 v] },toks:=tk }:=by
 refine wpAny_pyIter_range (IsRange.new ..) (small_one h1 h2 h3 h4) ?_;have I1:Inv X ae σ H { s with heap:=s.heap.push { cls:=.type "range",data:=.fields #[.int lo t,.int hi u,.int 1 v] },toks:=tk }:=I.kept fun b o e=>cU _ e
 refine⟨(s.heap.push { cls:=.type "range",data:=.fields #[.int lo t,.int hi u,.int 1 v] }).objs.size,[(s.heap.push { cls:=.type "range",data:=.fields #[.int lo t,.int hi u,.int 1 v] }).objs.size],_,_,H,rfl,
  I1.kept (t':=tk) fun b o e=>cU _ e,Gu _ lo (hi-lo).toNat,?_,fun b hb=>?_,q⟩
 ·have e1:lo+((0:Nat):Int)*1=lo:=by simp
  have e2:(((hi-lo).toNat:Nat):Int)-((0:Nat):Int)=Builtin.Range.rangeSize lo hi 1:=by rw[rangeSize_one]; split <;> omega
  show IsRangeIter _ _ (lo+((0:Nat):Int)*1) ((((hi-lo).toNat:Nat):Int)-((0:Nat):Int)) 1;rw[e1,e2];exact cI _ rfl
 ·have e:b=(s.heap.push { cls:=.type "range",data:=.fields #[.int lo t,.int hi u,.int 1 v] }).objs.size:=by simpa using hb
  subst e;exact I1.nR (bc _) (I1.hok.fresh (bc _))
def Fv(ta:TA):TI:=fun σ H R=>ta σ H fun vs H1=>∃j:Int,vs=[.int j]/\-(2 ^ 62)<=j/\j<2 ^ 62/\R (Nr 0 j.toNat) H1
theorem gW{a:Expr}{ta:TA}{p pos:Pos}(hg:Gl X "range")(hm:X.mg "range" = none)(ha:PA X [a] ta)(hs: ~~~(starEach [a] X.env=[(false,eval a X.env)])):PI X tg (.Call (.Name "range" p) [a] [] pos) (Fv ta):=by
 symm;intro R I h;refine Call_ (gZ I hg hm boot_range (PyProof.Rows.callWith_type1 (cA (ha pos ae s σ H _ I h) fun us s1 ⟨vs,H1,I1,r1,q1⟩=>?_) hs rfl));obtain⟨j,e,q1,q2,q⟩:=q1;subst e;cases r1 with
 | cons r rr=>
  cases rr;obtain⟨t,rfl⟩:=r;exact call_range_1 (Pa I1 ∅ ∅ q1 q2 (by simpa using q))
def Dv(wi:TI)(g:TG)(tb:TS):TS:=fun D σ H=>wi σ H fun J H1=>∃W:Nat->Nat->St->Hp->Prop,(∃m,W 0 m σ H1)/\∀i m σ H,W i m σ H ->
 (J.stop i H/\D.nx σ H)\/(J.go i H/\∃N:St->Hp->Prop,(∀σ' H',N σ' H'->∃m',m'<m/\W (i+1) m' σ' H')/\∀x H',J.Dm i H x H'->g x σ H' fun σ2 H2=>tb { D with nx:=N,ct:=N,bk:=D.nx } σ2 H2)
def Bq(fp:List Addr)(h:Heap):List (Addr×Obj):=fp.filterMap fun b=>(h.get? b).map fun o=>(b,o)
theorem dg{fp:List Addr}{h:Heap}{b:Addr}{o:Obj}(hb:b∈fp)(e:h.get? b=some o):(b,o)∈Bq fp h:=List.mem_filterMap.mpr ⟨b,hb,by rw[e]; rfl⟩
theorem Lw{fp:List Addr}{h:Heap}{p:Addr×Obj}(hp:p∈Bq fp h):p.1∈fp/\h.get? p.1=some p.2:=by
 obtain⟨b,hb,e⟩:=List.mem_filterMap.mp hp;cases q:h.get? b with
 | none=>rw[q] at e; cases e
 | some o=>
  rw[q] at e;have e':(b,o)=p:=Option.some.inj e;subst e';exact⟨hb,q⟩
theorem Inv.pinned{ae:List (Addr×Obj)}{σ:St}{H:Hp}{s:AB}{fp:List Addr}(I:Inv X ae σ H s)(hf:∀b∈fp,eE X ae H b)(ho:∀b∈fp,∃o,s.heap.get? b=some o/\∀v,o.data≠.cell v):Inv X (ae++Bq fp s.heap) σ H s:=
 I.JC fun p hp=>(gm.mp hp).elim (fun z=>I.pin p (iM _ z)) fun z=>by
  obtain⟨hb,e⟩:=Lw z;obtain⟨f0,f1,f2,_⟩:=hf p.1 hb;obtain⟨o,e',d⟩:=ho p.1 hb;rw[e] at e'; cases e';exact⟨e,f0,f1,f2,d⟩
theorem Inv.il{ae pl:List (Addr×Obj)}{σ:St}{H:Hp}{s:AB}(I:Inv X (ae++pl) σ H s):Inv X ae σ H s:=I.JC fun p hp=>I.pin p (iM _ (Es _ hp))
theorem iQ{iter:Expr}{body:List Stmt}{wi:TI}{g:TG}{tb:TS}{pos:Pos}(hp:PassesOwn (model X.prog X.w) X.A X.env X.xe)(hc:X.calm=true)(hi:PI X tg iter wi)(hg:PG X tg g)(hb:Aj X body tb)
  (hs:‹∀x,foldedSetIterable iter X.env x=pure x›):PS X (.For tg iter body [] pos) (Dv wi g tb):=by
 symm;intro D I h;refine wpAny_For (cA (hi ae s σ H _ I h) fun v s1 h1=>cA h1 fun itv s2 h2=>?_) hs;obtain⟨it,fp,tn,J,H2,e,I2,T,st2,f2,W,⟨m0,w0⟩,turn⟩:=h2;subst e;have stat:∀{H':Hp},(∀b∈fp,H' b=none)->∀b∈fp,eE X ae H' b:=fun hn b hb=>⟨hn b hb,(f2 b hb).2⟩;refine codeAny_forLoop_any (fun n s'=>∃i σ' H',Inv X ae σ' H' s'/\tn i s'.heap/\(∀b∈fp,H' b=none)/\W i n σ' H') ?_ m0 ⟨0,σ,H2,I2,st2,fun b hb=>(f2 b hb).1,w0⟩;rintro n s3 ⟨i,σ3,H3,I3,st3,fr3,w3⟩;rcases turn i n σ3 H3 w3 with⟨stop,qn⟩ | ⟨go,N,hN,step⟩
 ·refine En hp (cA (T.done X rfl rfl rfl hc i ae s3 σ3 H3 X.xe I3 (stat fr3) st3 stop) fun r s4 qx=>?_);obtain⟨hr,I4⟩:=qx;subst hr;exact El ⟨σ3,H3,I4,qn⟩
 ·refine En hp (cA (T.item X rfl rfl rfl hc i ae s3 σ3 H3 X.xe I3 (stat fr3) st3 go) fun r s4 qx=>?_);obtain⟨u,hr,h4⟩:=qx;subst hr;refine En hp (cA h4 fun _ s5 qx=>?_);obtain⟨x,H5,I5,r5,y5,R7,Rv⟩:=qx;have I5':=I5.pinned (stat Rv) (T.obj _ _ R7);refine En hp (cA (hg _ s5 σ3 H5 x u _ I5' r5 (step x H5 y5)) fun _ s6 qx=>?_);obtain⟨σ6,H6,I6,q6⟩:=qx;refine En hp (cA (hb _ s6 σ6 H6 _ I6 q6) fun f s7 q7=>?_)
  have again:∀{σ7:St} {H7:Hp},Inv X (ae++Bq fp s5.heap) σ7 H7 s7->N σ7 H7->∃m,m<n/\∃i σ' H',Inv X ae σ' H' s7/\tn i s7.heap/\(∀b∈fp,H' b=none)/\W i m σ' H':=fun {σ7 H7} I7 n7=>by
   obtain⟨m',hm,w7⟩:=hN σ7 H7 n7;refine⟨m',hm,i+1,σ7,H7,I7.il,T.keep _ _ _ R7 fun b hb o e=>(I7.pin (b,o) (iM _ (iM _ (dg hb e)))).1,fun b hb=>?_,w7⟩;obtain⟨o,e,d⟩:=T.obj _ _ R7 b hb;exact(I7.pin (b,o) (iM _ (iM _ (dg hb e)))).2.1
  cases f with
  | next=>obtain⟨σ7,H7,I7,n7⟩:=q7; exact again I7 n7
  | cont=>obtain⟨σ7,H7,I7,n7⟩:=q7; exact again I7 n7
  | brk=>obtain⟨σ7,H7,I7,q7⟩:=q7; exact⟨σ7,H7,I7.il,q7⟩
  | ret v=>obtain⟨x7,σ7,H7,I7,r7,q7⟩:=q7; exact⟨x7,σ7,H7,I7.il,r7,q7⟩
end
theorem QM{K:Frag}{a:Addr}{xs:List V}{g:TG}{tb:TS}{D:Ends}{σ:St}{H:Hp}(Pv:Nat->St->Hp->Prop)(h0:Pv 0 σ H)(hl:∀i σ H,i<=xs.length->Pv i σ H->cz K H a xs)
  (hs:∀i x σ H,xs[i]?=some x->Pv i σ H->g x σ H fun σ2 H2=>tb { D with nx:=Pv (i+1),ct:=Pv (i+1),bk:=D.nx } σ2 H2) (hd:∀σ H,Pv xs.length σ H->D.nx σ H) :
  ∃W:Nat->Nat->St->Hp->Prop,(∃m,W 0 m σ H)/\∀i m σ H,W i m σ H ->
   ((Wa K a).stop i H/\D.nx σ H)\/((Wa K a).go i H/\∃N:St->Hp->Prop,(∀σ' H',N σ' H'->∃m',m'<m/\W (i+1) m' σ' H')/\∀x H',(Wa K a).Dm i H x H'->g x σ H' fun σ2 H2=>tb { D with nx:=N,ct:=N,bk:=D.nx } σ2 H2):=by
 refine⟨fun i m σ H=>m=xs.length-i/\i<=xs.length/\Pv i σ H,⟨xs.length,by simp,eV _,h0⟩,?_⟩
 rintro i m σ H ⟨rfl,hi,p⟩;have q:=hl i σ H hi p;by_cases hlt:i<xs.length
 ·refine .inr ⟨⟨xs,xs[i],q,by simp[hlt]⟩,Pv (i+1),fun σ' H' p'=>⟨xs.length-(i+1),∅,rfl,hlt,p'⟩,fun x H' y=>?_⟩
  obtain⟨e,y⟩:=y;subst e;exact hs i x σ _ (y xs q) p
 ·have e:i=xs.length:=by omega
  subst e;exact .inl ⟨⟨xs,q,bc _⟩,hd σ H p⟩
theorem Uv{K:Frag}{a:Addr}{xs:List V}{g:TG}{tb:TS}{D:Ends}{σ:St}{H:Hp}(Pv:Nat->St->Hp->Prop)(h0:Pv 0 σ H)(hl:∀i σ H,i<=xs.length->Pv i σ H->dU K H a xs)
  (hs:∀i x σ H,xs[i]?=some x->Pv i σ H->g x σ H fun σ2 H2=>tb { D with nx:=Pv (i+1),ct:=Pv (i+1),bk:=D.nx } σ2 H2) (hd:∀σ H,Pv xs.length σ H->D.nx σ H) :
  ∃W:Nat->Nat->St->Hp->Prop,(∃m,W 0 m σ H)/\∀i m σ H,W i m σ H ->
   ((V_ K a).stop i H/\D.nx σ H)\/((V_ K a).go i H/\∃N:St->Hp->Prop,(∀σ' H',N σ' H'->∃m',m'<m/\W (i+1) m' σ' H')/\∀x H',(V_ K a).Dm i H x H'->g x σ H' fun σ2 H2=>tb { D with nx:=N,ct:=N,bk:=D.nx } σ2 H2):=by
 refine⟨fun i m σ H=>m=xs.length-i/\i<=xs.length/\Pv i σ H,⟨xs.length,by simp,eV _,h0⟩,?_⟩
 rintro i m σ H ⟨rfl,hi,p⟩;have q:=hl i σ H hi p;by_cases hlt:i<xs.length
 ·refine .inr ⟨⟨xs,xs[i],q,by simp[hlt]⟩,Pv (i+1),fun σ' H' p'=>⟨xs.length-(i+1),∅,rfl,hlt,p'⟩,fun x H' y=>?_⟩
  obtain⟨e,y⟩:=y;subst e;exact hs i x σ _ (y xs q) p
 ·have e:i=xs.length:=by omega
  subst e;exact .inl ⟨⟨xs,q,bc _⟩,hd σ H p⟩
theorem Mq{lo:Int}{n:Nat}{g:TG}{tb:TS}{D:Ends}{σ:St}{H:Hp}(Pv:Nat->St->Hp->Prop)(h0:Pv 0 σ H)
  (hs:∀i σ H,i<n->Pv i σ H->g (.int (lo+i)) σ H fun σ2 H2=>tb { D with nx:=Pv (i+1),ct:=Pv (i+1),bk:=D.nx } σ2 H2) (hd:∀σ H,Pv n σ H->D.nx σ H) :
  ∃W:Nat->Nat->St->Hp->Prop,(∃m,W 0 m σ H)/\∀i m σ H,W i m σ H ->
   ((Nr lo n).stop i H/\D.nx σ H)\/((Nr lo n).go i H/\∃N:St->Hp->Prop,(∀σ' H',N σ' H'->∃m',m'<m/\W (i+1) m' σ' H')/\∀x H',(Nr lo n).Dm i H x H'->g x σ H' fun σ2 H2=>tb { D with nx:=N,ct:=N,bk:=D.nx } σ2 H2):=by
 refine⟨fun i m σ H=>m=n-i/\i<=n/\Pv i σ H,⟨n,by simp,eV _,h0⟩,?_⟩
 rintro i m σ H ⟨rfl,hi,p⟩;by_cases hlt:i<n
 ·refine .inr ⟨hlt,Pv (i+1),fun σ' H' p'=>⟨n-(i+1),∅,rfl,hlt,p'⟩,fun x H' y=>?_⟩
  obtain⟨e,y⟩:=y;subst e y;exact hs i σ _ hlt p
 ·have e:i=n:=by omega
  subst e;exact .inl ⟨bc _,hd σ H p⟩
abbrev R2:=V->V->Hp->VK->Prop
structure mX(X:Cx)(f:AA->AA->Sem AA)(r:R2):Prop where
 mk ::
 go :
 ∀(ae:List (Addr×Obj))(s:AB)(σ:St)(H:Hp)(x y:V)(v u:AA)(Q:VK),Inv X ae σ H s->RelV x v->RelV y u->r x y H Q ->
  wpAny (model X.prog X.w) X.A (f v u) (EP X ae σ Q) X.xe s
instance {X:Cx} {f:AA->AA->Sem AA} {r:R2}:CoeFun (mX X f r) (fun _=>
 ∀(ae:List (Addr×Obj))(s:AB)(σ:St)(H:Hp)(x y:V)(v u:AA)(Q:VK),Inv X ae σ H s->RelV x v->RelV y u->r x y H Q ->
  wpAny (model X.prog X.w) X.A (f v u) (EP X ae σ Q) X.xe s):=⟨mX.go⟩
structure UnR(X:Cx)(f:AA->Sem AA)(r:V->Hp->VK->Prop):Prop where
 mk ::
 go :
 ∀(ae:List (Addr×Obj))(s:AB)(σ:St)(H:Hp)(x:V)(v:AA)(Q:VK),Inv X ae σ H s->RelV x v->r x H Q ->
  wpAny (model X.prog X.w) X.A (f v) (EP X ae σ Q) X.xe s
instance {X:Cx} {f:AA->Sem AA} {r:V->Hp->VK->Prop}:CoeFun (UnR X f r) (fun _=>
 ∀(ae:List (Addr×Obj))(s:AB)(σ:St)(H:Hp)(x:V)(v:AA)(Q:VK),Inv X ae σ H s->RelV x v->r x H Q ->
  wpAny (model X.prog X.w) X.A (f v) (EP X ae σ Q) X.xe s):=⟨UnR.go⟩
structure cJ(X:Cx)(f:AA)(r:List V->Hp->VK->Prop):Prop where
 mk ::
 go :
 ∀(ae:List (Addr×Obj))(s:AB)(σ:St)(H:Hp)(xs:List V)(us:List AA)(Q:VK),Inv X ae σ H s->Vals xs us->r xs H Q ->
  wpAny (model X.prog X.w) X.A (call f us) (EP X ae σ Q) X.xe s
instance {X:Cx} {f:AA} {r:List V->Hp->VK->Prop}:CoeFun (cJ X f r) (fun _=>
 ∀(ae:List (Addr×Obj))(s:AB)(σ:St)(H:Hp)(xs:List V)(us:List AA)(Q:VK),Inv X ae σ H s->Vals xs us->r xs H Q ->
  wpAny (model X.prog X.w) X.A (call f us) (EP X ae σ Q) X.xe s):=⟨cJ.go⟩
def R4(r:R2)(ta tb:TE):TE:=fun σ H Q=>ta σ H fun x H1=>tb σ H1 fun y H2=>r x y H2 Q
def tUn(r:V->Hp->VK->Prop)(ta:TE):TE:=fun σ H Q=>ta σ H fun x H1=>r x H1 Q
def rI(C:Int->Int->Prop)(g:Int->Int->V):R2:=fun x y H Q=>∃i j,x=.int i/\y=.int j/\C i j/\Q (g i j) H
def SJ(g:Int->Int->V):R2:=fun x y H Q=>∃i j,x=.int i/\y=.int j/\Q (g i j) H
def rU(g:Int->V):V->Hp->VK->Prop:=fun x H Q=>∃i,x=.int i/\Q (g i) H
section
variable{X:Cx}{a b c:Expr}{ta tb tc:TE}{pos:Pos}
theorem Yi(ha:PE X a ta)(hb:PE X b tb){ae:List (Addr×Obj)}{s:AB}{σ:St}{H:Hp}{R:V->V->Hp->Prop}(I:Inv X ae σ H s)
  (h:ta σ H fun x H1=>tb σ H1 fun y H2=>R x y H2) {Q:AA->AB->Prop} {f:AA->AA->Sem AA}
  (hf:∀v u s2 x y H2,Inv X ae σ H2 s2->RelV x v->RelV y u->R x y H2->wpAny (model X.prog X.w) X.A (f v u) Q X.xe s2) :
  wpAny (model X.prog X.w) X.A (eval a X.env) (fun v s₁=>wpAny (model X.prog X.w) X.A (eval b X.env) (fun u s₂=>wpAny (model X.prog X.w) X.A (f v u) Q X.xe s₂) X.xe s₁) X.xe s:=by
 refine cA (ha ae s σ H _ I h) fun v s1 qx=>?_;obtain⟨x,H1,I1,r1,q1⟩:=qx;refine cA (hb ae s1 σ H1 _ I1 q1) fun u s2 qx=>?_;obtain⟨y,H2,I2,r2,q2⟩:=qx;exact hf v u s2 x y H2 I2 r1 r2 q2
theorem aO{op:Operator}{r:R2}(ho:mX X (binaryOp op) r)(ha:PE X a ta)(hb:PE X b tb):PE X (.BinOp a op b pos) (R4 r ta tb):=by
 symm;intro Q I h;exact wpAny_BinOp (Yi ha hb I h fun v u s2 x y H2 I2 rx ry q=>ho ae s2 σ H2 x y v u Q I2 rx ry q)
theorem VH{op:UnaryOp}{r:V->Hp->VK->Prop}(ho:UnR X (unaryOp op) r)(ha:PE X a ta):PE X (.UnaryOp op a pos) (tUn r ta):=by
 symm;intro Q I h;exact UnaryOp_ (cA (ha ae s σ H _ I h) fun v s1 ⟨x,H1,I1,r1,q1⟩=>ho ae s1 σ H1 x v Q I1 r1 q1)
theorem opI{f:AA->AA->Sem AA}{C:Int->Int->Prop}{g:Int->Int->Int}
  (rule:∀(i j:Int)(t u:Tok)(s:AB)(Q:AA->AB->Prop)(E:AA->AB->Prop),C i j->Q (.int (g i j) s.toks) { s with toks:=s.toks+1 }->wpAny (model X.prog X.w) X.A (f (.int i t) (.int j u)) Q E s) :
  mX X f (rI C fun i j=>.int (g i j)):=by
 symm;intro x y v u Q I rx ry h;obtain⟨i,j,rfl,rfl,hc,q⟩:=h;obtain⟨t,rfl⟩:=rx;obtain⟨t',rfl⟩:=ry;exact rule i j t t' s _ _ hc ⟨.int (g i j),H,I.tok _,⟨_,rfl⟩,q⟩
theorem aaB{f:AA->AA->Sem AA}{g:Int->Int->Int}
  (rule:∀(i j:Int)(t u:Tok)(s:AB)(Q:AA->AB->Prop)(E:AA->AB->Prop),Q (.int (g i j) s.toks) { s with toks:=s.toks+1 }->wpAny (model X.prog X.w) X.A (f (.int i t) (.int j u)) Q E s) :
  mX X f (SJ fun i j=>.int (g i j)):=by
 symm;intro x y v u Q I rx ry h;obtain⟨i,j,rfl,rfl,q⟩:=h;obtain⟨t,rfl⟩:=rx;obtain⟨t',rfl⟩:=ry;exact rule i j t t' s _ _ ⟨.int (g i j),H,I.tok _,⟨_,rfl⟩,q⟩
theorem TF{f:AA->AA->Sem AA}{g:Int->Int->Bool}
  (rule:∀(i j:Int)(t u:Tok)(s:AB)(Q:AA->AB->Prop)(E:AA->AB->Prop),Q (.bool (g i j)) s->wpAny (model X.prog X.w) X.A (f (.int i t) (.int j u)) Q E s) :
  mX X f (SJ fun i j=>.bl (g i j)):=by
 symm;intro x y v u Q I rx ry h;obtain⟨i,j,rfl,rfl,q⟩:=h;obtain⟨t,rfl⟩:=rx;obtain⟨t',rfl⟩:=ry;exact rule i j t t' s _ _ ⟨.bl (g i j),H,I,rfl,q⟩
def aeR(i j:Int):Prop:=0<j/\j<1073741824
def aeQ(i j:Int):Prop:=0<=j/\j<=1000000/\i.natAbs<2 ^ 64
def Vb(i j:Int):Prop:=(-(2 ^ 64)<i/\i<2 ^ 64)\/(-(2 ^ 64)<j/\j<2 ^ 64)
theorem Vb.ok{i j:Int}(h:Vb i j):IntMulOk i j:=by
 rcases h with⟨h1,h2⟩ | ⟨h1,h2⟩
 ·exact .of_left (intBits_le_64 h1 h2)
 ·exact .of_right (intBits_le_64 h1 h2)
theorem bA:mX X (binaryOp .Add) (SJ fun i j=>.int (i+j)):=aaB fun _ _ _ _ _ _ _ q=>add_int q
theorem j6:mX X (binaryOp .Sub) (SJ fun i j=>.int (i-j)):=aaB fun _ _ _ _ _ _ _ q=>sub_int q
theorem jt:mX X (binaryOp .Mult) (rI Vb fun i j=>.int (i*j)):=opI fun _ _ _ _ _ _ _ hc q=>mul_int q hc.ok
theorem Tw:mX X (binaryOp .FloorDiv) (rI aeR fun i j=>.int (i / j)):=opI fun i j _ _ _ _ _ hc q=>by
 have h1:(0:Int)<j:=hc.1;have h2:j<1073741824:=hc.2;exact floordiv_int ∅ (by rw[Int.fdiv_eq_ediv_of_nonneg i ∅]; exact q) (.inl (PyProof.noPylong_small ∅))
theorem lO:mX X (binaryOp .Mod) (rI (fun _ j=>0<j) fun i j=>.int (i % j)):=opI fun i j _ _ _ _ _ hc q=>by
 have h1:(0:Int)<j:=hc;exact mod_int' ∅ (by rw[Int.fmod_eq_emod_of_nonneg i ∅]; exact q)
theorem pY:mX X (binaryOp .Pow) (rI aeQ fun i j=>.int (i ^ j.toNat)):=opI fun _ _ _ _ _ _ _ hc q=>pow_int_small hc.1 hc.2.1 hc.2.2 q
theorem unI{f:AA->Sem AA}{g:Int->Int}
  (rule:∀(i:Int)(t:Tok)(s:AB)(Q:AA->AB->Prop)(E:AA->AB->Prop),Q (.int (g i) s.toks) { s with toks:=s.toks+1 }->wpAny (model X.prog X.w) X.A (f (.int i t)) Q E s) :
  UnR X f (rU fun i=>.int (g i)):=by
 symm;intro x v Q I rx h;obtain⟨i,rfl,q⟩:=h;obtain⟨t,rfl⟩:=rx;exact rule i t s _ _ ⟨.int (g i),H,I.tok _,⟨_,rfl⟩,q⟩
theorem NP:UnR X (unaryOp .USub) (rU fun i=>.int (-i)):=unI fun _ _ _ _ _ q=>neg_int q
end
def K9:V->V->Bool
 | .non,.non=>true | .non,.int _=>true | .int _,.non=>true | .non,.bl _=>true | .bl _,.non=>true | .non,.str _=>true | .str _,.non=>true
 | .int _,.int _=>true | .bl _,.bl _=>true | .str _,.str _=>true | .M3 _,.M3 _=>true
 | .int _,.str _=>true | .str _,.int _=>true | .bl _,.str _=>true | .str _,.bl _=>true
 | _,_=>false
def rEq:R2:=fun x y H Q=>K9 x y=true/\Q (.bl (decide (x=y))) H
def rNe:R2:=fun x y H Q=>K9 x y=true/\Q (.bl (!decide (x=y))) H
theorem Kd{i j:Int}:decide (V.int i=V.int j)=(i==j):=by
 rw[Eh];simp
theorem QZ{i j:Bool}:decide (V.bl i=V.bl j)=(i==j):=by
 rw[Eh];simp
theorem Kc{i j:Str}:decide (V.str i=V.str j)=(i==j):=by
 rw[Eh];simp
theorem Ke{i j:Array UInt8}:decide (V.M3 i=V.M3 j)=(i.toList==j.toList):=by
 rw[Eh];cases i;cases j;simp
section
variable{X:Cx}{a b c:Expr}{ta tb tc:TE}{pos:Pos}
theorem bR{ae:List (Addr×Obj)}{σ:St}{H:Hp}{s:AB}{Q:VK}{k k':Bool}(I:Inv X ae σ H s)(q:Q (.bl k) H)(e:k=k'):EP X ae σ Q (.bool k') s:=by
 subst e;exact⟨.bl k,H,I,rfl,q⟩
theorem iB:mX X (compareOp .Eq) rEq:=by
 symm;intro x y v u Q I rx ry h;obtain⟨hs,q⟩:=h;cases x with
 | non=>
  cases rx;cases y with
  | non=>cases ry; exact PySem.EqNone.eq_none_none (bR I q (by simp))
  | bl j=>cases ry; exact PySem.EqNone.eq_none_bool (bR I q (by simp))
  | int j=>obtain⟨t',rfl⟩:=ry; exact PySem.EqNone.eq_none_int (bR I q (by simp))
  | str j=>obtain⟨t',rfl⟩:=ry; exact PySem.EqNone.eq_none_str (bR I q (by simp))
  | _=>exact absurd (show false=true from hs) iK
 | bl i=>
  cases rx;cases y with
  | non=>cases ry; exact PySem.EqNone.eq_bool_none (bR I q (by simp))
  | bl j=>cases ry; exact eq_bool (bR I q QZ)
  | str j=>obtain⟨t',rfl⟩:=ry; exact PySem.EqMixed.eq_bool_str (bR I q (by simp))
  | _=>exact absurd (show false=true from hs) iK
 | int i=>
  obtain⟨t,rfl⟩:=rx;cases y with
  | non=>cases ry; exact PySem.EqNone.eq_int_none (bR I q (by simp))
  | int j=>obtain⟨t',rfl⟩:=ry; exact eq_int (bR I q Kd)
  | str j=>obtain⟨t',rfl⟩:=ry; exact PySem.EqMixed.eq_int_str (bR I q (by simp))
  | _=>exact absurd (show false=true from hs) iK
 | str i=>
  obtain⟨t,rfl⟩:=rx;cases y with
  | non=>cases ry; exact PySem.EqNone.eq_str_none (bR I q (by simp))
  | bl j=>cases ry; exact PySem.EqMixed.eq_str_bool (bR I q (by simp))
  | int j=>obtain⟨t',rfl⟩:=ry; exact PySem.EqMixed.eq_str_int (bR I q (by simp))
  | str j=>obtain⟨t',rfl⟩:=ry; exact eq_str (bR I q Kc)
  | _=>exact absurd (show false=true from hs) iK
 | M3 i=>
  obtain⟨t,rfl⟩:=rx;cases y with
  | M3 j=>obtain⟨t',rfl⟩:=ry; exact PySem.W.eq_bytes (bR I q Ke)
  | _=>exact absurd (show false=true from hs) iK
 | _=>cases y <;> exact absurd (show false=true from hs) iK
theorem wG:mX X (compareOp .NotEq) rNe:=by
 symm;intro x y v u Q I rx ry h;obtain⟨hs,q⟩:=h;cases x with
 | non=>
  cases rx;cases y with
  | non=>cases ry; exact PySem.EqNone.ne_none_none (bR I q (by simp))
  | bl j=>cases ry; exact PySem.EqNone.ne_none_bool (bR I q (by simp))
  | int j=>obtain⟨t',rfl⟩:=ry; exact PySem.EqNone.ne_none_int (bR I q (by simp))
  | str j=>obtain⟨t',rfl⟩:=ry; exact PySem.EqNone.ne_none_str (bR I q (by simp))
  | _=>exact absurd (show false=true from hs) iK
 | bl i=>
  cases rx;cases y with
  | non=>cases ry; exact PySem.EqNone.ne_bool_none (bR I q (by simp))
  | bl j=>cases ry; exact ne_bool (bR I q (lJ not QZ))
  | str j=>obtain⟨t',rfl⟩:=ry; exact PySem.EqMixed.ne_bool_str (bR I q (by simp))
  | _=>exact absurd (show false=true from hs) iK
 | int i=>
  obtain⟨t,rfl⟩:=rx;cases y with
  | non=>cases ry; exact PySem.EqNone.ne_int_none (bR I q (by simp))
  | int j=>obtain⟨t',rfl⟩:=ry; exact ne_int (bR I q (lJ not Kd))
  | str j=>obtain⟨t',rfl⟩:=ry; exact PySem.EqMixed.ne_int_str (bR I q (by simp))
  | _=>exact absurd (show false=true from hs) iK
 | str i=>
  obtain⟨t,rfl⟩:=rx;cases y with
  | non=>cases ry; exact PySem.EqNone.ne_str_none (bR I q (by simp))
  | bl j=>cases ry; exact PySem.EqMixed.ne_str_bool (bR I q (by simp))
  | int j=>obtain⟨t',rfl⟩:=ry; exact PySem.EqMixed.ne_str_int (bR I q (by simp))
  | str j=>obtain⟨t',rfl⟩:=ry; exact ne_str (bR I q (lJ not Kc))
  | _=>exact absurd (show false=true from hs) iK
 | M3 i=>
  obtain⟨t,rfl⟩:=rx;cases y with
  | M3 j=>obtain⟨t',rfl⟩:=ry; exact PySem.W.ne_bytes (bR I q (lJ not Ke))
  | _=>exact absurd (show false=true from hs) iK
 | _=>cases y <;> exact absurd (show false=true from hs) iK
theorem ud:mX X (compareOp .Lt) (SJ fun i j=>.bl (decide (i<j))):=TF fun _ _ _ _ _ _ _ q=>lt_int q
theorem JL:mX X (compareOp .LtE) (SJ fun i j=>.bl (decide (i<=j))):=TF fun _ _ _ _ _ _ _ q=>le_int q
theorem zQ:mX X (compareOp .Gt) (SJ fun i j=>.bl (decide (j<i))):=TF fun _ _ _ _ _ _ _ q=>gt_int q
theorem aaA:mX X (compareOp .GtE) (SJ fun i j=>.bl (decide (j<=i))):=TF fun _ _ _ _ _ _ _ q=>ge_int q
theorem Lk:mX X (compareOp .In) (fun x y H Q=>∃i j,x=.str i/\y=.str j/\Q (.bl (!(Builtin.Str.occurrences j i 0 j.length 1).isEmpty)) H):=by
 symm;intro x y v u Q I rx ry h;obtain⟨i,j,rfl,rfl,q⟩:=h;obtain⟨t,rfl⟩:=rx;obtain⟨t',rfl⟩:=ry;exact in_str (bR I q rfl)
theorem Bw:mX X (compareOp .Is) (fun x y H Q=>y=.non/\Q (.bl (decide (x=.non))) H):=by
 symm;intro x y v u Q I rx ry h;obtain⟨rfl,q⟩:=h;cases ry;refine is_none_gen (bR I q ?_);cases x <;> first
  | (cases rx; rfl)
  | (obtain⟨t,rfl⟩:=rx; rfl)
theorem uX:mX X (compareOp .IsNot) (fun x y H Q=>y=.non/\Q (.bl (!decide (x=.non))) H):=by
 symm;intro x y v u Q I rx ry h;obtain⟨rfl,q⟩:=h;cases ry;refine isnot_none_gen (bR I q ?_);cases x <;> first
  | (cases rx; rfl)
  | (obtain⟨t,rfl⟩:=rx; rfl)
theorem bf(b:Expr){op:CmpOp}(h:(op≠.In)⁻¹)(h2:(op≠.NotIn)⁻¹):behindInMarks op b=false:=by
 have e1:(op==CmpOp.In)=false:=by cases op <;> first | rfl | exact absurd rfl h
 have e2:(op==CmpOp.NotIn)=false:=by cases op <;> first | rfl | exact absurd rfl h2
 cases b <;> simp[behindInMarks,e1,e2]
theorem du{op:CmpOp}{r:R2}(ho:mX X (compareOp op) r)(ha:PE X a ta)(hb:PE X b tb)(hm:behindInMarks op b=false):PE X (.Compare a [op] [b] pos) (R4 r ta tb):=by
 symm;intro Q I h;exact wpAny_Compare1 (Yi ha hb I h fun v u s2 x y H2 I2 rx ry q=>ho ae s2 σ H2 x y v u Q I2 rx ry q) hm
def Og(t:TE):TT:=fun σ H Q=>t σ H fun x H'=>∃k,x=.bl k/\Q k H'
theorem bu{op:CmpOp}{r:R2}(ho:mX X (compareOp op) r)(ha:PE X a ta)(hb:PE X b tb)(hm:behindInMarks op b=false):PT X (.Compare a [op] [b] pos) (Og (R4 r ta tb)):=by
 symm;intro Q I h
 refine wpAny_isTrue_Compare1 (cA (ha ae s σ H _ I h) fun v s1 ⟨x,H1,I1,r1,q1⟩=>cA (hb ae s1 σ H1 _ I1 q1) fun u s2 ⟨y,H2,I2,r2,q2⟩=>
  cA (ho ae s2 σ H2 x y v u _ I2 r1 r2 q2) fun c s3 ⟨z,H3,I3,r3,k,e,q3⟩=>?_) hm
 subst e;cases r3;exact D_ ⟨H3,I3,q3⟩
def Oo(r r':R2)(ta tb tc:TE):TE:=fun σ H Q=>ta σ H fun x H1=>tb σ H1 fun y H2=>r x y H2 fun z H3=>∃k,z=.bl k /\
 (if k=true then tc σ H3 fun w' H4=>r' y w' H4 Q else Q (.bl false) H3)
theorem Et{op op':CmpOp}{r r':R2}(ho:mX X (compareOp op) r)(ho':mX X (compareOp op') r')(ha:PE X a ta)(hb:PE X b tb)(hc:PE X c tc)
  (hm:lastMarks [op,op'] [b,c]=false:=by with_unfolding_all rfl):PT X (.Compare a [op,op'] [b,c] pos) (Og (Oo r r' ta tb tc)):=by
 symm;intro Q I h
 refine isTrue_chain (cA (ha ae s σ H _ I h) fun v s1 ⟨x,H1,I1,r1,q1⟩=>test_link (cA (hb ae s1 σ H1 _ I1 q1) fun u s2 ⟨y,H2,I2,r2,q2⟩=>
  cA (ho ae s2 σ H2 x y v u _ I2 r1 r2 q2) fun d s3 ⟨z,H3,I3,r3,k,e,q3⟩=>?_)) hm
 subst e;cases r3;refine D_ ?_;cases k with
 | false=>
  obtain⟨k',e',q'⟩:=q3;cases e';exact ite_ff ⟨H3,I3,q'⟩
 | true=>
  refine ite_tt (test_last (cA (hc ae s3 σ H3 _ I3 q3) fun w' s4 ⟨z',H4,I4,r4,q4⟩=>cA (ho' ae s4 σ H4 y z' u w' _ I4 r2 r4 q4) fun d' s5 qx=>?_));obtain⟨z2,H5,I5,r5,k2,e2,q5⟩:=qx;subst e2;cases r5;exact D_ ⟨H5,I5,q5⟩
def aeB(K:Frag)(x:V)(H:Hp)(k:Bool):Prop:=
 match x with
 | .non=>k=false
 | .bl b=>k=b
 | .int i=>k=(i != 0)
 | .str y=>y.length<=sizeLine/\k=((y.length:Int) != 0)
 | .M3 y=>y.size<=sizeLine/\k=((y.size:Int) != 0)
 | .ref p=>(∃xs,cz K H p xs/\k = !xs.isEmpty)\/(∃xs,dU K H p xs/\k = !xs.isEmpty)\/∃kvs,H p=some (.dK kvs)/\k = !kvs.isEmpty
 | _=>False
theorem p_:(sizeLine:Nat)<2 ^ 63:=by rw[sizeLine_eq]; decide
theorem lQ:mX X (binaryOp .Add) (fun x y H Q=>∃i j,x=.str i/\y=.str j/\i.length+j.length<=sizeLine/\Q (.str (i++j)) H):=by
 symm;intro x y v u Q I rx ry h;obtain⟨i,j,rfl,rfl,hz,q⟩:=h;obtain⟨t,rfl⟩:=rx;obtain⟨t',rfl⟩:=ry;exact add_str (fun t' tk=>⟨.str (i++j),H,I.tok _,⟨_,rfl⟩,q⟩) hz
theorem vals1{x:V}{us:List AA}(r:Vals [x] us):∃u,us=[u]/\RelV x u:=by
 cases r with
 | cons r1 r2=>cases r2; exact⟨_,rfl,r1⟩
theorem vals2{x y:V}{us:List AA}(r:Vals [x,y] us):∃u w',us=[u,w']/\RelV x u/\RelV y w':=by
 cases r with
 | cons r1 r2=>
  cases r2 with
  | cons r3 r4=>cases r4; exact⟨_,_,rfl,r1,r3⟩
theorem FQ:cJ X (.builtin "abs") (fun xs H Q=>∃i,xs=[.int i]/\Q (.int (if i<0 then -i else i)) H):=by
 symm;intro xs us Q I r h;obtain⟨i,rfl,q⟩:=h;obtain⟨u,rfl,t,rfl⟩:=vals1 r;exact call_abs_int fun u tk=>⟨.int (if i<0 then -i else i),H,I.tok _,⟨_,rfl⟩,q⟩
theorem lB(hc:X.calm=true):cJ X (.builtin "max") (fun xs H Q=>∃i j,xs=[.int i,.int j]/\Q (.int (if j>i then j else i)) H):=by
 symm;intro xs us Q I r h;obtain⟨i,j,rfl,q⟩:=h;obtain⟨u,w',rfl,⟨t,rfl⟩,⟨t',rfl⟩⟩:=vals2 r;refine max_two_ints (I.ok.hd hc) fun h' tk k=>⟨_,H,I.kept k,?_,q⟩;by_cases hj:j>i
 ·rw[aV hj,aV hj]; exact⟨_,rfl⟩
 ·rw[aN hj,aN hj]; exact⟨_,rfl⟩
theorem gb(hc:X.calm=true):cJ X (.builtin "min") (fun xs H Q=>∃i j,xs=[.int i,.int j]/\Q (.int (if j<i then j else i)) H):=by
 symm;intro xs us Q I r h;obtain⟨i,j,rfl,q⟩:=h;obtain⟨u,w',rfl,⟨t,rfl⟩,⟨t',rfl⟩⟩:=vals2 r;refine min_two_ints (I.ok.hd hc) fun h' tk k=>⟨_,H,I.kept k,?_,q⟩;by_cases hj:j<i
 ·rw[aV hj,aV hj]; exact⟨_,rfl⟩
 ·rw[aN hj,aN hj]; exact⟨_,rfl⟩
end
structure Ii(h:Heap)(x dx C:Addr)(mA:Str->Option AA):Prop where
 obj:h.get? x=some (instObj C dx)
 ns:h.Ns1 dx mA
 ne:dx≠x
theorem LQ{h:Heap}{dx:Addr}{mA:Str->Option AA}(n:h.Ns1 dx mA):∃od,h.get? dx=some od/\∀name,lookIn name od=some (mA name):=by
 obtain⟨o,es,ep,ho,hd,hk,_,hm⟩:=n;refine⟨o,ho,fun name=>?_⟩;have e:=hm name;unfold nsFind findBy at e;rw[<- Array.find?_toList] at e;unfold lookIn;rw[hd];dsimp only;split
 ·rename_i y q;rw[q] at e;exact lJ some e
 ·rename_i q;rw[q] at e
  have a:es.toList.any (·.refKey)=false:=by
   rw[List.any_eq_false];intro y hy;obtain⟨z,t,hkey⟩:=hk y (Array.mem_toList_iff.mp hy);simp[DictEntry.refKey,hkey]
  have a':¬es.toList.any (·.refKey)=true:=by rw[a]; exact iK
  rw[aN a'];exact lJ some e
theorem Ii.look{h:Heap}{x dx C:Addr}{mA:Str->Option AA}(I:Ii h x dx C mA):∃od,PySem.W.InstAt h x (instObj C dx) C (some od)/\∀name,lookIn name od=some (mA name):=
 let ⟨od,ho,hl⟩:=LQ I.ns
 ⟨od,⟨I.obj,rfl,rfl,ho⟩,hl⟩
section
variable{prog:AC}{w:World}{A:Around}{E:AA->AB->Prop}{s:AB}{K:Frag}{x dx C f:Addr}{mA:Str->Option AA}{name:Str}{v:AA}
theorem get_map{expr:Bool}{Q:AA->AB->Prop}(X:K.In s.heap)(I:Ii s.heap x dx C mA)(hg:plainGet K C name=true)(hh:hasDictIn K C=true)
  (ha:findIn K (.ref C) name=some none) (hv:mA name=some v) (hv':handedIn v=true) (h:Q v { s with toks:=s.toks+1 }) :
  wpAny (model prog w) A (getAttr (.ref x) name expr) Q E s:=by
 obtain⟨od,J,hl⟩:=I.look;exact PySem.W.get_value X J (plainGet_of hg).1 (PySem.W.findObj_own hh ha rfl (by rw[hl,hv])) hv' h
theorem QK{pl:Sem Bool}{Q:AA×List AA->AB->Prop}(X:K.In s.heap)(I:Ii s.heap x dx C mA)(hg:plainGet K C name=true)
  (hf:findIn K (.ref C) name=some (some (.ref f))) (ht:isFn K (.ref f)=true) (hv:mA name=none) (h:Q (.ref f,[.ref x]) s) :
  wpAny (model prog w) A (getMethod (.ref x) name pl) Q E s:=by
 obtain⟨od,J,hl⟩:=I.look;exact PySem.W.method_fn X J (plainGet_of hg).1 (plainGet_of hg).2 hf (beq_iff_eq.mp ht) (by show(lookIn name od).map (·.isSome)=some false; rw[hl,hv]; rfl) h
theorem R8{ns:List Str}{Q:Unit->AB->Prop}(X:K.In s.heap)(I:Ii s.heap x dx C mA)
  (hs:findIn K (.ref C) "__setattr__" = some (some (.builtin "object.__setattr__"))) (hp:plainOver K C=true) (ht:takerIn K C name=some none) (hh:hasDictIn K C=true)
  (hw:PySem.Within mA ns) (hsz:ns.length<=sizeLine)
  (h:∀h',Ii h' x dx C (fun y=>if y=name then some v else mA y)->Heap.SameBut dx s.heap h'->Q () { s with heap:=h',toks:=s.toks+2 }) :
  wpAny (model prog w) A (setAttr (.ref x) name v) Q E s:=by
 obtain⟨od,J,hl⟩:=I.look;refine PySem.W.set_plain X J hs (PySem.W.osa_open (s:={ s with toks:=s.toks+1 }) (r:=none) X J hp ht fun b=>?_)
 obtain⟨cd,hc,hd'⟩:=PySem.W.any_some hh;have hx:s.heap.get? x=some ⟨.ref C,some dx,.plain,#[]⟩:=I.obj;refine aL (bL (aL (aL (wpAny_loadPart hx (aL (PySem.W.Looks.here (s:={ s with toks:=s.toks+1 }) (PySem.W.looks_clsIn X hc) ?_))))))
 rw[hd'];refine bL (a:=some dx) (aL (bL (aL ?_)));refine wpAny_nsSet1 (s:={ s with toks:=s.toks+1 }) I.ns fun h' hn2 hs2=>?_
 obtain⟨oD,esD,epD,hoD,hdD,hcD⟩:=hn2.count (PySem.Within.cons name v hw);refine aL (wpAny_lookBehind hoD (by rw[hdD]; exact pastItsLine_dict (jJ hcD (by rw[fC]; omega))) ?_)
 exact bL (h _ ⟨(hs2.2 _ (Ne.symm I.ne)).trans I.obj,hn2,I.ne⟩ hs2)
theorem Ql{R:Result->AB->Prop}{vs:List AA}{kw:List (Str×AA)}(X:K.In s.heap)(hm:makesIn K C=true)
  (hi:findIn K (.ref C) "__init__" = some (some (.ref f))) (hf:PySem.W.typeIn K (.ref f)=some (.type "function"))
  (h:codeAny (model prog w) (A.under (.builtin "type.__call__" ⟨.ref C::vs,kw⟩)) (.call (.ref f) ⟨.ref (s.heap.objs.size+1)::vs,kw⟩) (PySem.W.InitBack (s.heap.objs.size+1) R)
   { s with heap:=(s.heap.push emptyDict).push (instObj C s.heap.objs.size) }) :
  codeAny (model prog w) A (.call (.ref C) ⟨vs,kw⟩) R s:=by
 obtain⟨hh,g,d,t,os⟩:=s;exact PySem.W.make_core (PySem.W.makes_of X hm) (PySem.W.looks_findIn X hi) (fun self=>PySem.W.bind_fn X self hf) (.inl rfl) h
end
def jm(f:Str)(v:V):List (Str×V)->List (Str×V)
 | []=>[(f,v)]
 | (g,x)::r=>if g=f then(g,v)::r else(g,x)::jm f v r
theorem ue(f g:Str)(v:V):∀fs:List (Str×V),(jm f v fs).lookup g=if g=f then some v else fs.lookup g
 | []=>by
  show List.lookup g [(f,v)]=_;by_cases h:g=f
  ·have hb:(g==f)=true:=beq_iff_eq.mpr h;simp only[List.lookup,hb,aV h]
  ·have hb:(g==f)=false:=beq_eq_false_iff_ne.mpr h;simp only[List.lookup,hb,aN h]
 | (k,x)::r=>by
  have ih:=ue f g v r;rw[show jm f v ((k,x)::r)=(if k=f then(k,v)::r else(k,x)::jm f v r) from rfl]
  by_cases hk:k=f
  ·rw[aV hk];by_cases h:g=k
   ·have hb:(g==k)=true:=beq_iff_eq.mpr h;simp only[List.lookup,hb,aV (h.trans hk)]
   ·have hb:(g==k)=false:=beq_eq_false_iff_ne.mpr h;simp only[List.lookup,hb,aN (fun e:g=f=>h (e.trans hk.symm))]
  ·rw[aN hk];by_cases h:g=k
   ·have hb:(g==k)=true:=beq_iff_eq.mpr h;simp only[List.lookup,hb,aN (fun e:g=f=>hk (h.symm.trans e))]
   ·have hb:(g==k)=false:=beq_eq_false_iff_ne.mpr h;simp only[List.lookup,hb];exact ih
theorem sY(f:Str)(v:V):∀fs:List (Str×V),f∈(jm f v fs).map (·.1)/\∀g,g∈fs.map (·.1)->g∈(jm f v fs).map (·.1)
 | []=>⟨by simp[jm],fun g h=>by simp at h⟩
 | (k,x)::r=>by
  obtain⟨i1,i2⟩:=sY f v r;rw[show jm f v ((k,x)::r)=(if k=f then(k,v)::r else(k,x)::jm f v r) from rfl]
  by_cases hk:k=f
  ·rw[aV hk];subst hk;exact⟨by simp,fun g h=>by simpa using h⟩
  ·rw[aN hk];refine⟨?_,fun g h=>?_⟩
   ·rw[jk];exact dX _ i1
   ·rw[jk] at h ⊢;rcases bK.mp h with e | e
    ·exact bK.mpr (.inl e)
    ·exact dX _ (i2 g e)
theorem uf(f:Str)(v:V):∀fs:List (Str×V),(jm f v fs).length<=fs.length+1
 | []=>by simp[jm]
 | (k,x)::r=>by
  have ih:=uf f v r;rw[show jm f v ((k,x)::r)=(if k=f then(k,v)::r else(k,x)::jm f v r) from rfl]
  by_cases hk:k=f
  ·rw[aV hk,fC,fC]; omega
  ·rw[aN hk,fC,fC]; omega
theorem mW.some_of{v:V}{o:Option AA}(r:mW (some v) o):∃u,o=some u/\RelV v u:=by
 cases o with
 | none=>exact(show False from r).elim
 | some u=>exact⟨u,rfl,r⟩
theorem mW.none_of{o:Option AA}(r:mW none o):o=none:=by
 cases o with
 | none=>rfl
 | some u=>exact(show False from r).elim
theorem Ml{v:V}{u:AA}(r:RelV v u):handedIn u=true:=by
 cases v with
 | non=>cases(show u=Value.none from r); rfl
 | bl b=>cases(show u=Value.bool b from r); rfl
 | int i=>obtain⟨t,e⟩:=(show ∃t,u=Value.int i t from r); cases e; rfl
 | str x=>obtain⟨t,e⟩:=(show ∃t,u=Value.str x t from r); cases e; rfl
 | M3 b=>obtain⟨t,e⟩:=(show ∃t,u=Value.bytes b t from r); cases e; rfl
 | flt b=>obtain⟨t,e⟩:=(show ∃t,u=Value.float b t from r); cases e; rfl
 | ref a=>cases(show u=Value.ref a from r); rfl
 | ty n=>cases(show u=Value.type n from r); rfl
section
variable{P:AC}{w:World}{H H':Hp}{h h':Heap}{a C dx:Addr}{fs fs':List (Str×V)}
theorem qZ(hok:jT P w H h)(e:H a=some (.ins C dx fs)):∃mA,Ii h a dx C mA/\(∀f,mW (fs.lookup f) (mA f))/\PySem.Within mA (fs.map (·.1))/\fs.length<=1000/\H dx=some (.own a):=by
 obtain⟨d,z,ne,ob,mA,n,r,q⟩:=(show bM P w H h a (.ins C dx fs) from hok a _ e);exact⟨mA,⟨ob,n,ne⟩,r,q,z,d⟩
end
structure Dk(K:Frag)(C:Addr):Prop where
 pg:plainGet K C Str.empty=true
 hd:hasDictIn K C=true
 po:plainOver K C=true
 sa:findIn K (.ref C) "__setattr__" = some (some (.builtin "object.__setattr__"))
theorem Dk.get{K:Frag}{C:Addr}(c:Dk K C)(f:Str):plainGet K C f=true:=c.pg
def cR(K:Frag)(C:Addr)(f:Str):Prop:=findIn K (.ref C) f=some none
theorem cR.taker{K:Frag}{C:Addr}{f:Str}(n:cR K C f):takerIn K C f=some none:=by
 unfold takerIn;rw[show findIn K (.ref C) f=some none from n];rfl
structure Con(K:Frag)(C:Addr)(f:Str)(v:V)(u:AA):Prop where
 at_:findIn K (.ref C) f=some (some u)
 rel:RelV v u
 get:specialIn K u "__get__" = some none
 cp:PySem.W.copiedNames.contains f=false
structure Meth(K:Frag)(C:Addr)(m:Str)(f:Addr):Prop where
 at_:findIn K (.ref C) m=some (some (.ref f))
 fn:isFn K (.ref f)=true
 kp:keepIn K (.ref f)=true
section
variable{X:Cx}{ae:List (Addr×Obj)}{σ:St}{H:Hp}{s:AB}{a C dx:Addr}{fs:List (Str×V)}{f:Str}{v:V}{A:Around}{E:AA->AB->Prop}
theorem Hx{b:Bool}{Q:AA->AB->Prop}(I:Inv X ae σ H s)(e:H a=some (.ins C dx fs))(c:Dk X.K C)(n:cR X.K C f)(l:fs.lookup f=some v)
  (h:∀u s',Inv X ae σ H s'->RelV v u->Q u s'):wpAny (model X.prog X.w) A (getAttr (.ref a) f b) Q E s:=by
 obtain⟨mA,O,r,_,_,_⟩:=qZ I.hok e;obtain⟨u,hu,ru⟩:=mW.some_of (v:=v) (o:=mA f) (by rw[<- l]; exact r f)
 exact get_map I.lg O (c.get f) c.hd n hu (Ml ru) (h u _ (I.tok _) ru)
theorem qd{m:Str}{g:Addr}{pl:Sem Bool}{Q:AA×List AA->AB->Prop}(I:Inv X ae σ H s)(e:H a=some (.ins C dx fs))(c:Dk X.K C)(k:Meth X.K C m g)(l:fs.lookup m=none)
  (h:Q (.ref g,[.ref a]) s):wpAny (model X.prog X.w) A (getMethod (.ref a) m pl) Q E s:=by
 obtain⟨mA,O,r,_,_,_⟩:=qZ I.hok e;have hn:mA m=none:=mW.none_of (by rw[<- l]; exact r m)
 exact QK I.lg O (c.get m) k.at_ k.fn hn h
theorem GK{y:V}{u:AA}{Q:Unit->AB->Prop}(I:Inv X ae σ H s)(e:H a=some (.ins C dx fs))(c:Dk X.K C)(n:cR X.K C f)(hl:fs.length<1000)(ry:RelV y u)
  (h:∀s',Inv X ae σ (upd H a (.ins C dx (jm f y fs))) s'->Q () s'):wpAny (model X.prog X.w) A (setAttr (.ref a) f u) Q E s:=by
 obtain⟨mA,O,r,wi,_,ho⟩:=qZ I.hok e;have hz:(fs.map (·.1)).length<=sizeLine:=by rw[bZ,sizeLine_eq]; omega
 refine R8 I.lg O c.sa c.po n.taker c.hd wi hz fun h' O' sb=>h _ ?_;have hd:∃o,h'.get? dx=some o:=let ⟨o,_,_,e',_⟩:=O'.ns; ⟨o,e'⟩;refine I.write (x:=a) (e:=dx) (by rw[e]; exact True.intro) (.inr ho) (fun b q hb z=>(sb.2 b hb).trans z) hd ?_
 refine⟨by rw[aC O.ne]; exact ho,?_,O.ne,O'.obj,_,O'.ns,fun g=>?_,fun g hg=>?_⟩
 ·have:=uf f y fs; omega
 ·show mW ((jm f y fs).lookup g) (if g=f then some u else mA g)
  rw[ue];by_cases q:g=f
  ·rw[aV q,aV q]; exact ry
  ·rw[aN q,aN q]; exact r g
 ·by_cases q:g=f
  ·rw[q]; exact(sY f y fs).1
  ·refine(sY f y fs).2 g (wi g fun z=>hg ?_);show(if g=f then some u else mA g)=none
   rw[aN q]; exact z
theorem Inv.made(I:Inv X ae σ H s):Inv X ae σ (upd (upd H s.heap.objs.size (.own (s.heap.objs.size+1))) (s.heap.objs.size+1) (.ins C s.heap.objs.size []))
  { s with heap:=(s.heap.push emptyDict).push (instObj C s.heap.objs.size) }:=by
 have e1:(s.heap.push emptyDict).get? s.heap.objs.size=some emptyDict:=cI s.heap rfl
 have e2:((s.heap.push emptyDict).push (instObj C s.heap.objs.size)).get? (s.heap.objs.size+1)=some (instObj C s.heap.objs.size):=by
  have:=cI (s.heap.push emptyDict) (o:=instObj C s.heap.objs.size) rfl
  rwa [gf] at this
 have e3:(s.heap.push emptyDict).Ns s.heap.objs.size (fun _=>none):=⟨emptyDict,#[],_,e1,rfl,(fun e he=>absurd he (by simp)),fun _=>rfl⟩
 have I1:=I.laid (a:=s.heap.objs.size) (o:=.own (s.heap.objs.size+1)) (h':=s.heap.push emptyDict) (t':=s.toks) (fun b u q=>cU _ q) (bc _) ⟨_,e1⟩;refine I1.laid (a:=s.heap.objs.size+1) (o:=.ins C s.heap.objs.size []) (t':=s.toks) (fun b u q=>cU _ q) (Nat.le_of_eq (gf _ _)) ?_;have ne:s.heap.objs.size≠s.heap.objs.size+1:=cZ (Bg _);refine⟨by rw[aC ne,aB],eV _,ne,e2,fun _=>none,(Heap.Ns1.of_empty e3).at fun o q=>cU _ q,fun _=>True.intro,fun y hy=>absurd rfl hy⟩
theorem U6{prog:AC}{w:World}{env:Env}{e:Expr}{f:Str}{pos:Pos}{s:AB}{Q:AA->AB->Prop}(hb:attributeBase e f env (eval e env)=eval e env)
  (h:wpAny (model prog w) A (eval e env) (fun o s₁=>wpAny (model prog w) A (getAttr o f true) Q E s₁) E s):wpAny (model prog w) A (eval (.Attribute e f pos) env) Q E s:=
 Attribute_any_ h (by rw[arm_eval_Attribute,hb])
end
def Wn(K:Frag)(ta:TE)(f:Str):TE:=fun σ H Q=>ta σ H fun x H1=>∃a C dx fs v,x=.ref a/\H1 a=some (.ins C dx fs)/\Dk K C/\cR K C f/\fs.lookup f=some v/\Q v H1
def Wz(K:Frag)(ta tv:TE)(f:Str):TS:=fun D σ H=>tv σ H fun y H1=>ta σ H1 fun x H2=>∃a C dx fs,x=.ref a/\H2 a=some (.ins C dx fs)/\Dk K C/\cR K C f/\fs.length<1000 /\
 D.nx σ (upd H2 a (.ins C dx (jm f y fs)))
def abD(X:Cx)(op:Operator)(rd:V->V->Hp->VK->Prop):Prop:=
 ∀(ae:List (Addr×Obj))(s:AB)(σ:St)(H:Hp)(x y:V)(u v:AA)(Q:VK),Inv X ae σ H s->RelV x u->RelV y v->rd x y H Q->wpAny (model X.prog X.w) X.A (inplaceOp op u v) (EP X ae σ Q) X.xe s
section
variable{X:Cx}{o e value:Expr}{f:Str}{pos pos' tpos:Pos}{ta tv:TE}
theorem Xe(he:PE X e ta)(hb:attributeBase e f X.env (eval e X.env)=eval e X.env):PE X (.Attribute e f pos) (Wn X.K ta f):=by
 symm;intro Q I h;refine U6 hb (cA (he ae s σ H _ I h) fun u s1 qx=>?_);obtain⟨x,H1,I1,rx,a,C,dx,fs,v,ex,ea,c,n,l,q⟩:=qx;subst ex;obtain rfl:u=Value.ref a:=rx;exact Hx I1 ea c n l fun u' s2 I2 ru=>⟨v,H1,I2,ru,q⟩
theorem WW(ha:PE X o ta)(hv:PE X value tv)(hs:swapsWith value (some (.Attribute o f pos')) pos.line X.env=pure false):PS X (.Assign [.Attribute o f pos'] value pos) (Wz X.K ta tv f):=by
 symm;intro D I h;refine plainObj_wpAny_Assign_Attribute (cA (hv ae s σ H _ I h) fun u s1 ⟨y,H1,I1,ry,q⟩=>cA (ha ae s1 σ H1 _ I1 q) fun ov s2 ⟨x,H2,I2,rx,a,C,dx,fs,ex,ea,c,n,l,q2⟩=>?_) hs;subst ex;obtain rfl:ov=Value.ref a:=rx;exact GK I2 ea c n l ry fun s3 I3=>⟨σ,_,I3,q2⟩
def ac6:V->V->Hp->VK->Prop:=fun x y H Q=>∃i j,x=.int i/\y=.int j/\Q (.int (i+j)) H
theorem XM:abD X .Add ac6:=by
 rintro ae s σ H x y u v Q I rx ry ⟨i,j,rfl,rfl,q⟩;obtain⟨t,rfl⟩:=(show ∃t,u=Value.int i t from rx);obtain⟨t',rfl⟩:=(show ∃t',v=Value.int j t' from ry);exact PyProof.Rows.iadd_int ⟨.int (i+j),H,I.tok _,⟨_,rfl⟩,q⟩
end
section
variable{X:Cx}{ae:List (Addr×Obj)}{σ:St}{H:Hp}{s:AB}{A:Around}{E:AA->AB->Prop}{Q:AA->AB->Prop}{c:AA}{b:Bool}
inductive qw(K:Frag)(H:Hp):V->AA->Prop where
 | non:qw K H .non (.type "NoneType")
 | bl (x:Bool):qw K H (.bl x) (.type "bool")
 | int (i:Int):qw K H (.int i) (.type "int")
 | str (x:Str):qw K H (.str x) (.type "str")
 | flt (x:UInt64):qw K H (.flt x) (.type "float")
 | lst {a:Addr} {xs:List V} (e:H a=some (.lst xs)):qw K H (.ref a) (.type "list")
 | kE {a:Addr} {o:Obj} {xs:List V} (e:H a=some (.kE o (.lst xs))):qw K H (.ref a) (.type "list")
 | tup {a:Addr} {xs:List V} (e:H a=some (.tup xs)):qw K H (.ref a) (.type "tuple")
 | dK {a:Addr} {kvs:List (Key×V)} (e:H a=some (.dK kvs)):qw K H (.ref a) (.type "dict")
 | dT {a:Addr} {kvs:List (List Key×V)} (e:H a=some (.dT kvs)):qw K H (.ref a) (.type "dict")
 | ins {a C dx:Addr} {fs:List (Str×V)} (e:H a=some (.ins C dx fs)) (cl:Dk K C) (ha:findIn K (.ref C) "__class__" = some (some (.builtin "object.__class__")))
   (hn:specialIn K (.builtin "object.__class__") "__get__" = some (some (.builtin "getset_descriptor.__get__"))) (htk:PySem.W.takesIn K (.builtin "object.__class__")=some true)
   (hm:mroIn K C (.type "object")=some true):qw K H (.ref a) (.ref C)
theorem zW{x:V}{u t:AA}(I:Inv X ae σ H s)(rx:RelV x u)(ty:qw X.K H x t)(e:kitOne X.K t c=some b)(h:∀tk,Q (.bool b) { s with toks:=tk }) :
  wpAny (model X.prog X.w) A (call (.builtin "isinstance") [u,c]) Q E s:=by
 cases ty with
 | non=>cases(show u=Value.none from rx); exact kia_one kitx_none I.lg True.intro e (fun z=>nomatch z) h
 | bl y=>cases(show u=Value.bool y from rx); exact kia_one kitx_bool I.lg True.intro e (fun z=>nomatch z) h
 | int i=>obtain⟨t,q⟩:=(show ∃t,u=Value.int i t from rx); cases q; exact kia_one kitx_int I.lg True.intro e (fun z=>nomatch z) h
 | str y=>obtain⟨t,q⟩:=(show ∃t,u=Value.str y t from rx); cases q; exact kia_one kitx_str I.lg True.intro e (fun z=>nomatch z) h
 | flt y=>obtain⟨t,q⟩:=(show ∃t,u=Value.float y t from rx); cases q; exact kia_one kitx_float I.lg True.intro e (fun z=>nomatch z) h
 | @lst a xs ea=>
  cases(show u=Value.ref a from rx);obtain⟨_,_,n,_,h1⟩:=(show bM X.prog X.w H s.heap a (.lst xs) from I.hok a _ ea);exact kia_one kitx_list I.lg ⟨_,h1,rfl⟩ e (fun z=>nomatch z) h
 | @kE a ob xs ea=>
  cases(show u=Value.ref a from rx);obtain⟨_,_,_,n,_,h1⟩:=(show bM X.prog X.w H s.heap a (.kE ob (.lst xs)) from I.hok a _ ea);exact kia_one kitx_list I.lg ⟨_,h1,rfl⟩ e (fun z=>nomatch z) h
 | @tup a xs ea=>
  cases(show u=Value.ref a from rx);obtain⟨_,_,_,p⟩:=(show bM X.prog X.w H s.heap a (.tup xs) from I.hok a _ ea);obtain⟨o,h1,h2,_⟩:=p;exact kia_one kitx_tuple I.lg ⟨o,h1,h2⟩ e (fun z=>nomatch z) h
 | @dK a kvs ea=>
  cases(show u=Value.ref a from rx);obtain⟨_,_,vs,_,p⟩:=(show bM X.prog X.w H s.heap a (.dK kvs) from I.hok a _ ea);obtain⟨o,es,ep,h1,h2,_⟩:=p;exact kia_one kitx_dict I.lg ⟨o,h1,h2.1⟩ e (fun z=>nomatch z) h
 | @dT a kvs ea=>
  cases(show u=Value.ref a from rx);obtain⟨_,_,xs,_,o,es,ep,h1,h2,_⟩:=(show bM X.prog X.w H s.heap a (.dT kvs) from I.hok a _ ea);exact kia_one kitx_dict I.lg ⟨o,h1,h2.1⟩ e (fun z=>nomatch z) h
 | @ins a C dx fs ea cl ha hn htk hm=>
  cases(show u=Value.ref a from rx);obtain⟨mA,O,_⟩:=qZ I.hok ea;obtain⟨od,J,_⟩:=O.look;exact kia_one (kitx_own (cl.get _) cl.hd ha hn htk hm) I.lg J e (fun z=>nomatch z) h
end
structure dR(k:Nat)(A:Around):Prop where
 hd:A.handled=none
 dp:A.depth+3*k+5<recursionLimit
 un:A.units+16*k+200<cLine
 gd:A.guards=some []
theorem dR.mono{j k:Nat}{A:Around}(r:dR k A)(h:j<=k):dR j A:=⟨r.hd,by have:=r.dp; omega,by have:=r.un; omega,r.gd⟩
theorem dR.deeper{k:Nat}{A:Around}(r:dR (k+1) A)(env:Env):dR k (A.deeper env):=
 ⟨r.hd,by have:=r.dp; show A.depth+1+3*k+5<_; omega,by have:=r.un; show A.units+3+16*k+200<_; omega,by first | exact r.gd | (simpa[Around.deeper,Around.under,Code.guards,Code.isGuard,guardIds,pushGuards] using r.gd)⟩
theorem Hn{A:Around}{C:Addr}{us:List AA}{kw:List (Str×AA)}:(A.under (.builtin "type.__call__" ⟨.ref C::us,kw⟩)).depth=A.depth+1:=by
 first | rfl | simp[Around.under,Code.weight,Code.isCreation,Code.isGuard,Code.isCaller,Code.frames,Code.isFrame,guardIds]
theorem Hm{A:Around}{C:Addr}{us:List AA}{kw:List (Str×AA)}:(A.under (.builtin "type.__call__" ⟨.ref C::us,kw⟩)).units=A.units+1:=by
 first | rfl | simp[Around.under,Code.cUnits,Code.frames,Code.isFrame]
theorem dR.make{k:Nat}{A:Around}(r:dR (k+1) A)(C:Addr)(us:List AA)(kw:List (Str×AA)):dR k (A.under (.builtin "type.__call__" ⟨.ref C::us,kw⟩)):=
 ⟨r.hd,by have:=r.dp; rw[Hn]; omega,by have:=r.un; rw[Hm]; omega,by first | exact r.gd | (simpa[Around.deeper,Around.under,Code.guards,Code.isGuard,guardIds,pushGuards] using r.gd)⟩
theorem dR.depth{k:Nat}{A:Around}(r:dR k A):A.depth<recursionLimit:=by have:=r.dp; omega
theorem dR.units{k:Nat}{A:Around}(r:dR k A):A.units+64<cLine:=by have:=r.un; omega
def Ao:TA:=fun _ H Q=>Q [] H
def pH(ta:TE)(tr:TA):TA:=fun σ H Q=>ta σ H fun x H1=>tr σ H1 fun xs H2=>Q (x::xs) H2
section
variable{X:Cx}{e:Expr}{es:List Expr}{te:TE}{t:TA}{pos:Pos}
theorem ak:PA X [] Ao:=.mk <| fun _ _ _ _ H Q I h=>Calls.spliced_nil ⟨[],H,I,.nil,h⟩
theorem Tu(ha:PE X e te)(hr:PA X es t)(hs: ~~~(starEach (e::es) X.env=(false,eval e X.env)::starEach es X.env)):PA X (e::es) (pH te t):=by
 refine .mk ?_;intro pos ae s σ H Q I h;rw[hs];show wpAny _ _ (spliced ((false,eval e X.env)::backTo pos (starEach es X.env))) _ _ s;refine Calls.spliced_cons (cA (ha ae s σ H _ I h) fun u s1 qx=>?_);obtain⟨x,H1,I1,r1,q1⟩:=qx;exact cA (hr pos ae s1 σ H1 _ I1 q1) fun us s2 ⟨xs,H2,I2,r2,q2⟩=>⟨x::xs,H2,I2,.cons r1 r2,q2⟩
def acK(t:TA):TE:=fun σ H Q=>t σ H fun xs H1=>xs.length<=sizeLine/\∀p,H1 p=none->Q (.ref p) (upd H1 p (.tup xs))
def ZQ(t:TA):TE:=fun σ H Q=>t σ H fun xs H1=>xs.length<=sizeLine/\∀p,H1 p=none->Q (.ref p) (upd H1 p (.lst xs))
theorem Xd(h:PA X es t):PE X (.List es pos) (ZQ t):=by
 symm;intro Q I hq;refine wpAny_List_spliced (cA (h pos ae s σ H _ I hq) fun us s1 ⟨xs,H1,I1,r,z,q⟩=>⟨by rw[<- r.length]; exact z,?_⟩)
 have hf:H1 s1.heap.objs.size=none:=I1.hok.fresh (bc _);refine⟨.ref s1.heap.objs.size,upd H1 s1.heap.objs.size (.lst xs),I1.laid (t':=s1.toks) (fun b u e=>cU _ e) (bc _) ?_,rfl,q _ hf⟩;exact⟨z,us,0,r,cI _ rfl⟩
end
abbrev Sp:=List V->Hp->VK->XK->Prop
abbrev Kq:=List Env->Hp->AB->XK->AA->AB->Prop
structure Io(P:AC)(w:World)(K:Frag)(mg:Str->Option AA)(base:Heap)(A:Around)(outer:List Env)(s:AB)(H:Hp):Prop where
 frames:A.frames=some outer
 mod:Mod K mg base
 bs:∀b o,base.get? b=some o->s.heap.get? b=some o/\H b=none
 M4:base.objs.size<=s.heap.objs.size
 sZ:s.heap.FunFrames base outer
 VV:∀b∈frs outer,H b=none
 hok:jT P w H s.heap
 bare:AllBare s.gens
def CE(outer:List Env)(P:AC)(w:World)(H:Hp)(s:AB)(Q:VK)(u:AA)(s':AB):Prop:=
 ∃v H',s'.os=s.os/\AllBare s'.gens/\Un (frs outer) [] H H' s.heap s'.heap/\jT P w H' s'.heap/\RelV v u/\Q v H'
def CR(CX:Kq)(outer:List Env)(P:AC)(w:World)(H:Hp)(s:AB)(Q:VK)(E:XK)(r:Result)(s':AB):Prop:=
 match r with
 | .ok (.ret u)=>CE outer P w H s Q u s'
 | .ok _=>False
 | .error e=>CX outer H s E e s'
structure bH(P:AC)(w:World)(K:Frag)(mg:Str->Option AA)(base:Heap)(CX:Kq)(k:Nat)(f:Addr)(fd:FuncData)(ps:List Str)(sp:Sp):Prop where
 len:∀vs H Q E,sp vs H Q E->vs.length=ps.length
 run:∀(A:Around)(outer:List Env)(s:AB)(H:Hp)(args:Args)(us:List AA)(vs:List V)(Q:VK)(E:XK),dR k A->Io P w K mg base A outer s H->BindsTo s fd args (ps.zip us)->Vals vs us->sp vs H Q E ->
  codeAny (model P w) A (.call (.ref f) args) (CR CX outer P w H s Q E) s
theorem bH.mono{P:AC}{w:World}{K:Frag}{mg:Str->Option AA}{base:Heap}{CX:Kq}{j k:Nat}{f:Addr}{fd:FuncData}{ps:List Str}{sp:Sp}(F:bH P w K mg base CX j f fd ps sp)(h:j<=k) :
  bH P w K mg base CX k f fd ps sp:=⟨F.len,fun A outer s H args us vs Q E hr=>F.run A outer s H args us vs Q E (hr.mono h)⟩
theorem Io.make{P:AC}{w:World}{K:Frag}{mg:Str->Option AA}{base:Heap}{A:Around}{outer:List Env}{s:AB}{H:Hp}(e:Io P w K mg base A outer s H)(C:Addr)(us:List AA)(kw:List (Str×AA)) :
  Io P w K mg base (A.under (.builtin "type.__call__" ⟨.ref C::us,kw⟩)) outer s H:=⟨by first | exact e.frames | (simpa[Around.under,Code.envs,Code.isFrame,pushEnvs] using e.frames),e.mod,e.bs,e.M4,e.sZ,e.VV,e.hok,e.bare⟩
section
variable{X:Cx}{ae:List (Addr×Obj)}{σ:St}{H:Hp}{s s':AB}
theorem Inv.env0(I:Inv X ae σ H s):Io X.prog X.w X.K X.mg X.base X.A X.stack s H:=
 ⟨I.ok.frames,I.ok.mod,I.bs,jJ I.ok.M4 I.sz,I.stack,I.uP,I.hok,I.bare⟩
theorem Inv.after{Q:VK}{u:AA}(I:Inv X ae σ H s)(h:CE X.stack X.prog X.w H s Q u s'):EP X ae σ Q u s':=by
 obtain⟨v,H',os,bare,un,hok,r,q⟩:=h;obtain⟨hh,g,d,t,os'⟩:=s';obtain rfl:os'=s.os:=os;exact⟨v,H',I.call (h':=hh) (g':=g) (d':=d) (t':=t) (ch:=[]) un hok bare (fun b z=>absurd z (by simp)),r,q⟩
end
def mZ(sp:Sp)(uN:List V)(E:XK)(t:TA):TE:=fun σ H Q=>t σ H fun vs H1=>sp (vs++uN) H1 Q E
def Du(C:Addr)(m:Str)(sp:Sp)(uN:List V)(E:XK)(ta:TE)(t:TA):TE:=fun σ H Q=>ta σ H fun x H1=>∃a dx fs,x=.ref a/\H1 a=some (.ins C dx fs)/\fs.lookup m=none /\
 t σ H1 fun vs H2=>sp (x::(vs++uN)) H2 Q E
def IV(C:Addr)(sp:Sp)(uN:List V)(E:XK)(t:TA):TE:=fun σ H Q=>t σ H fun vs H1=>∀x dx,H1 x=none->H1 dx=none->dx≠x ->
 sp (.ref x::(vs++uN)) (upd (upd H1 dx (.own x)) x (.ins C dx [])) (fun v H2=>v=.non/\Q (.ref x) H2) E
def Binds(K:Frag)(fd:FuncData)(ps:List Str)(ds:List AA):Prop:=
 ∀(s:AB)(us:List AA),K.In s.heap->(us++ds).length=ps.length->BindsTo s fd ⟨us,[]⟩ (ps.zip (us++ds))
theorem Binds.all{K:Frag}{fd:FuncData}{ps:List Str}(h:∀us:List AA,us.length=ps.length->bindArgs fd ⟨us,[]⟩=pure (ps.zip us)):Binds K fd ps []:=fun s us _ hl=>by
 rw[oX] at hl ⊢;exact .of_eq (h us hl)
def Passes(CX:Kq)(X:Cx)(E:XK):Prop:=∀(ae:List (Addr×Obj))(σ:St)(H:Hp)(s:AB)(e:AA)(s':AB),Inv X ae σ H s->CX X.stack H s E e s'->X.xe e s'
section
variable{X:Cx}{CX:Kq}{k:Nat}{f C:Addr}{fd:FuncData}{ps:List Str}{sp:Sp}{uN:List V}{ds:List AA}{E:XK}{x m:Str}{p pos apos:Pos}{e o:Expr}{es:List Expr}{ta:TE}{t:TA}
theorem GR{ae:List (Addr×Obj)}{σ:St}{H:Hp}{s:AB}{Q:VK}{us:List AA}{vs:List V}(F:bH X.prog X.w X.K X.mg X.base CX k f fd ps sp)(hr:dR k X.A)(hb:Binds X.K fd ps ds)(hd:Vals uN ds)(hx:Passes CX X E)
  (I:Inv X ae σ H s) (r:Vals vs us) (h:sp (vs++uN) H Q E):wpAny (model X.prog X.w) X.A (call (.ref f) us) (EP X ae σ Q) X.xe s:=by
 have r2:Vals (vs++uN) (us++ds):=r.append hd;have hl:(us++ds).length=ps.length:=by rw[<- r2.length]; exact F.len _ _ _ _ h
 refine wpAny_call (codeAny_mono (F.run X.A X.stack s H ⟨us,[]⟩ (us++ds) (vs++uN) Q E hr I.env0 (hb s us I.lg hl) r2 h) fun r s' hq=>?_);cases r with
 | error e=>exact hx ae σ H s e s' I hq
 | ok fl=>
  cases fl with
  | ret u=>exact I.after hq
  | next=>exact False.elim hq
  | brk=>exact False.elim hq
  | cont=>exact False.elim hq
theorem JK(F:bH X.prog X.w X.K X.mg X.base CX k f fd ps sp)(hr:dR k X.A)(hg:Gl X x)(hm:X.mg x=some (.ref f))(hk:keepIn X.K (.ref f)=true)(hb:Binds X.K fd ps ds)(hd:Vals uN ds)(hx:Passes CX X E)
  (ha:PA X (e::es) t) (hdb:((x==("__debug__" : Str))=false)⁻¹) (he: ~~~(starEach (e::es) X.env=(false,eval e X.env)::starEach es X.env)) (hpl: ~~~((backTo pos (starEach es X.env)).any (·.1)=false)) :
  PE X (.Call (.Name x p) (e::es) [] pos) (mZ sp uN E t):=by
 symm;intro Q I h;refine qQ (qY I hg hm ?_ hdb);refine callWith_K (h₀:=X.base) I.ok.mod.Qq hk (cA (ha pos ae s σ H _ I h) fun us s1 ⟨vs,H1,I1,r,q⟩=>⟨I1.lg,?_⟩) he hpl;exact GR F hr hb hd hx I1 r q
theorem Tn{pl:Sem Bool}(he:PE X o ta)(c:Dk X.K C)(hm:Meth X.K C m f)(F:bH X.prog X.w X.K X.mg X.base CX k f fd ps sp)(hr:dR k X.A)(hb:Binds X.K fd ps ds)(hd:Vals uN ds)(hx:Passes CX X E)(ha:PA X (e::es) t)
  (hst: ~~~(starEach (e::es) X.env=(false,eval e X.env)::starEach es X.env)) (hpl: ~~~((backTo pos (starEach es X.env)).any (·.1)=false))
  (ht: ~~~(eval (.Call (.Attribute o m apos) (e::es) [] pos) X.env=(do
   let ov <- eval o X.env
   standAt apos.atName
   let (f,first) <- holding [ov] (getMethod ov m pl)
   callWith pos f first (backTo pos (starEach (e::es) X.env)) (backToKw pos (keywordEach [] X.env))))) :
  PE X (.Call (.Attribute o m apos) (e::es) [] pos) (Du C m sp uN E ta t):=by
 symm;intro Q I h;refine methodCall_KW (pl:=pl) (cA (he ae s σ H _ I h) fun u s1 ⟨x,H1,I1,rx,a,dx,fs,ex,ea,l,q⟩=>?_) ht;subst ex;obtain rfl:u=Value.ref a:=rx;refine qd I1 ea c hm l ?_;refine callWith_K (first:=[.ref a]) (h₀:=X.base) I.ok.mod.Qq hm.kp (cA (ha pos ae s1 σ H1 _ I1 q) fun us s2 ⟨vs,H2,I2,r,q2⟩=>⟨I2.lg,?_⟩) hst hpl
 exact GR (us:=.ref a::us) (vs:=.ref a::vs) F hr hb hd hx I2 (.cons rfl r) q2
theorem PL{pl:Sem Bool}(he:PE X o ta)(c:Dk X.K C)(hm:Meth X.K C m f)(F:bH X.prog X.w X.K X.mg X.base CX k f fd ps sp)(hr:dR k X.A)(hb:Binds X.K fd ps ds)(hd:Vals uN ds)(hx:Passes CX X E)
  (ht: ~~~(eval (.Call (.Attribute o m apos) [] [] pos) X.env=(do
   let ov <- eval o X.env
   standAt apos.atName
   let (f,first) <- holding [ov] (getMethod ov m pl)
   callWith pos f first (backTo pos (starEach [] X.env)) (backToKw pos (keywordEach [] X.env))))) :
  PE X (.Call (.Attribute o m apos) [] [] pos) (Du C m sp uN E ta Ao):=by
 symm;intro Q I h;refine methodCall_KW (pl:=pl) (cA (he ae s σ H _ I h) fun u s1 ⟨x,H1,I1,rx,a,dx,fs,ex,ea,l,q⟩=>?_) ht;subst ex;obtain rfl:u=Value.ref a:=rx;refine qd I1 ea c hm l ?_;exact PySem.W.callWith_K0 (first:=[.ref a]) I1.lg hm.kp (GR (us:=[.ref a]) (vs:=[.ref a]) F hr hb hd hx I1 (.cons rfl .nil) q)
structure Mk(K:Frag)(C f:Addr):Prop where
 makes:makesIn K C=true
 init:findIn K (.ref C) "__init__" = some (some (.ref f))
 fn:isFn K (.ref f)=true
 kp:keepIn K (.ref C)=true
theorem O6{ae:List (Addr×Obj)}{σ:St}{H:Hp}{s:AB}{Q:VK}{us:List AA}{vs:List V}(M:Mk X.K C f)(F:bH X.prog X.w X.K X.mg X.base CX k f fd ps sp)(hr:dR (k+1) X.A)(hb:Binds X.K fd ps ds)(hd:Vals uN ds)
  (hx:Passes CX X E) (I:Inv X ae σ H s) (r:Vals vs us)
  (h:∀x dx,H x=none->H dx=none->dx≠x->sp (.ref x::(vs++uN)) (upd (upd H dx (.own x)) x (.ins C dx [])) (fun v H2=>v=.non/\Q (.ref x) H2) E) :
  wpAny (model X.prog X.w) X.A (call (.ref C) us) (EP X ae σ Q) X.xe s:=by
 have hq:=h (s.heap.objs.size+1) s.heap.objs.size (I.hok.fresh (tX _)) (I.hok.fresh (bc _)) (cZ (Bg _));have I2:=Inv.made (C:=C) I;have r2:Vals (V.ref (s.heap.objs.size+1)::(vs++uN)) (Value.ref (s.heap.objs.size+1)::(us++ds)):=.cons rfl (r.append hd)
 have hl:(Value.ref (s.heap.objs.size+1)::us++ds).length=ps.length:=by
  have e:=r2.length;rw[F.len _ _ _ _ hq] at e;exact e.symm
 refine wpAny_call (Ql (f:=f) I.lg M.makes M.init (beq_iff_eq.mp M.fn) (codeAny_mono (F.run _ X.stack _ _ ⟨Value.ref (s.heap.objs.size+1)::us,[]⟩ (Value.ref (s.heap.objs.size+1)::(us++ds)) _ _ E (hr.make C us [])
  (I2.env0.make C us []) (hb _ (Value.ref (s.heap.objs.size+1)::us) I2.lg hl) r2 hq) fun r s' hq'=>?_))
 cases r with
 | error e=>exact hx ae σ _ _ e s' I2 hq'
 | ok fl=>
  cases fl with
  | ret u=>
   obtain⟨v,H',I3,rv,ev,q3⟩:=I2.after hq';subst ev;exact⟨rv,⟨V.ref (s.heap.objs.size+1),H',I3,rfl,q3⟩⟩
  | next=>exact False.elim hq'
  | brk=>exact False.elim hq'
  | cont=>exact False.elim hq'
theorem JH(M:Mk X.K C f)(F:bH X.prog X.w X.K X.mg X.base CX k f fd ps sp)(hr:dR (k+1) X.A)(hg:Gl X x)(hm:X.mg x=some (.ref C))(hb:Binds X.K fd ps ds)(hd:Vals uN ds)(hx:Passes CX X E)
  (ha:PA X (e::es) t) (hdb:((x==("__debug__" : Str))=false)⁻¹) (he: ~~~(starEach (e::es) X.env=(false,eval e X.env)::starEach es X.env)) (hpl: ~~~((backTo pos (starEach es X.env)).any (·.1)=false)) :
  PE X (.Call (.Name x p) (e::es) [] pos) (IV C sp uN E t):=by
 symm;intro Q I h;refine qQ (qY I hg hm ?_ hdb);refine callWith_K (h₀:=X.base) I.ok.mod.Qq M.kp (cA (ha pos ae s σ H _ I h) fun us s1 ⟨vs,H1,I1,r,q⟩=>⟨I1.lg,?_⟩) he hpl;exact O6 M F hr hb hd hx I1 r q
end
def PK(X:Cx)(kws:List Keyword)(t:TA):Prop:=
 ∀(pos:Pos)(ae:List (Addr×Obj))(s:AB)(σ:St)(H:Hp)(Q:List V->Hp->Prop),Inv X ae σ H s->t σ H Q->wpAny (model X.prog X.w) X.A (evalAll ((backToKw pos (keywordEach kws X.env)).map (·.2))) (AP X ae σ Q) X.xe s
section
variable{X:Cx}{CX:Kq}{k:Nat}{f C:Addr}{fd:FuncData}{ps ks:List Str}{sp:Sp}{E:XK}{x m:Str}{p pos apos Ug:Pos}{e o:Expr}{es:List Expr}{kws:List Keyword}{te ta:TE}{t tk:TA}{nm:Option Str}
theorem WX:PK X [] Ao:=fun _ _ _ _ H Q I h=>wpAny_evalAll_nil ⟨[],H,I,.nil,h⟩
theorem Tc(ha:PE X e te)(hr:PK X kws t):PK X (⟨nm,e,Ug⟩::kws) (pH te t):=by
 intro pos ae s σ H Q I h;show wpAny _ _ (evalAll ((do let v <- eval e X.env; standAt pos; pure v)::(backToKw pos (keywordEach kws X.env)).map (·.2))) _ _ s
 refine wpAny_evalAll_cons (aL (cA (ha ae s σ H _ I h) fun u s1 ⟨x,H1,I1,r1,q1⟩=>aL (Be (bL ?_))));exact cA (hr pos ae s1 σ H1 _ I1 q1) fun us s2 ⟨xs,H2,I2,r2,q2⟩=>⟨x::xs,H2,I2,.cons r1 r2,q2⟩
structure aeJ(K:Frag)(fd:FuncData)(ps ks:List Str)(g:List AA->List AA->List AA)(gV:List V->List V->List V):Prop where
 to:∀(s:AB)(us ws:List AA),K.In s.heap->(g us ws).length=ps.length->BindsTo s fd ⟨us,ks.zip ws⟩ (ps.zip (g us ws))
 rel:∀{vs:List V}{us:List AA}{zs:List V}{ws:List AA},Vals vs us->Vals zs ws->Vals (gV vs zs) (g us ws)
variable{g:List AA->List AA->List AA}{gV:List V->List V->List V}
end
structure aX(N P:List Str)(sc:Scope):Prop where
 kind:sc.kind=.function
 co:sc.isCoroutine=false
 gen:sc.isGenerator=false
 nd:N.Nodup
 pre:N.take P.length=P
 par:∀x∈P,sc.names.lookup x=some .local\/sc.names.lookup x=some .cell
 Xl:∀y∈sc.names,y.2≠.free
theorem Af{kindOf:Str->Option NameKind}{x:Str}:∀{binds:List (Str×AA)}{m:Str->Option AA},(∀v,(x,v)∉binds)->bindL kindOf binds m x=m x
 | [],_,_=>rfl
 | (n,v)::r,m,h=>by
  unfold bindL;rw[Af fun w hw=>h w (dX _ hw)];split
  ·have:x≠n:=by rintro rfl; exact h v eX
   simp[this]
  ·rfl
theorem Ah{kindOf:Str->Option NameKind}{x:Str}:∀{binds:List (Str×AA)}{m:Str->Option AA},(∀v,(x,v)∉binds)->bindC kindOf binds m x=m x
 | [],_,_=>rfl
 | (n,v)::r,m,h=>by
  unfold bindC;rw[Ah fun w hw=>h w (dX _ hw)];split
  ·rfl
  ·have:x≠n:=by rintro rfl; exact h v eX
   simp[this]
theorem Ag{kindOf:Str->Option NameKind}{x:Str}{v:AA}:∀{P:List Str}{vs:List AA}{i:Nat}{m:Str->Option AA},P.Nodup->P[i]?=some x->vs[i]?=some v->kindOf x=some .local ->
  bindL kindOf (P.zip vs) m x=some v
 | [],_,_,_,_,h,_,_=>by simp at h
 | _::_,[],_,_,_,_,h,_=>by simp at h
 | p::P,w::vs,0,m,nd,h1,h2,hk=>by
  simp at h1 h2; subst h1; subst h2;show bindL kindOf ((p,w)::P.zip vs) m p=_;unfold bindL;rw[Af fun v hv=>(jK.mp nd).1 (Ej hv).1,aV hk];simp
 | p::P,w::vs,i+1,m,nd,h1,h2,hk=>by
  show bindL kindOf ((p,w)::P.zip vs) m x=_;unfold bindL;exact Ag (i:=i) (jK.mp nd).2 (by simpa using h1) (by simpa using h2) hk
theorem Ai{kindOf:Str->Option NameKind}{x:Str}{v:AA}:∀{P:List Str}{vs:List AA}{i:Nat}{m:Str->Option AA},P.Nodup->P[i]?=some x->vs[i]?=some v->kindOf x≠some .local ->
  bindC kindOf (P.zip vs) m x=some v
 | [],_,_,_,_,h,_,_=>by simp at h
 | _::_,[],_,_,_,_,h,_=>by simp at h
 | p::P,w::vs,0,m,nd,h1,h2,hk=>by
  simp at h1 h2; subst h1; subst h2;show bindC kindOf ((p,w)::P.zip vs) m p=_;unfold bindC;rw[Ah fun v hv=>(jK.mp nd).1 (Ej hv).1,aN hk];simp
 | p::P,w::vs,i+1,m,nd,h1,h2,hk=>by
  show bindC kindOf ((p,w)::P.zip vs) m x=_;unfold bindC;exact Ai (i:=i) (jK.mp nd).2 (by simpa using h1) (by simpa using h2) hk
def start(N:List Str)(vs:List V):St:=vs.map some++List.replicate (N.length-vs.length) none
def gq(CX:Kq)(P:AC)(w:World)(K:Frag)(mg:Str->Option AA)(base:Heap)(N:List Str)(qual:Str)(scope:Scope)(f:Addr)(cd:AA)(A:Around)(outer:List Env)(s:AB)(H:Hp)(E:XK):Cx where
 prog:=P
 w:=w
 K:=K
 mg:=mg
 base:=base
 A:=A.deeper (envOfC qual scope s.heap.objs.size f cd)
 N:=N
 s₀:=s
 H₀:=H
 env:=envOfC qual scope s.heap.objs.size f cd
 outer:=outer
 stack:=envOfC qual scope s.heap.objs.size f cd::outer
 ex:=[]
 calm:=true
 fn:=fun _=>true
 pn:=[]
 xe:=fun e s'=>wpAny (model P w) (A.deeper (envOfC qual scope s.heap.objs.size f cd)) (leaving (envOfC qual scope s.heap.objs.size f cd) e) (fun _ s''=>CX outer H s E e s'') (fun e' s''=>CX outer H s E e' s'') s'
theorem FP{sc:Scope}{n:Nat}{x:Str}(h:sc.names.lookup x=some .cell):∃c,(cellsFrom n sc.names []).lookup x=some c:=by
 have q:=cellsFrom_some sc.names n [] (.inl h);exact Lg.mp q
theorem zX{CX:Kq}{P:AC}{w:World}{K:Frag}{mg:Str->Option AA}{base:Heap}{N ps:List Str}{qual:Str}{scope:Scope}{f:Addr}{cd:AA}{A:Around}{outer:List Env}{s s1:AB}{H:Hp}{E:XK}{us:List AA}{vs:List V}
  (S:aX N ps scope) (hd:A.handled=none) (e0:Io P w K mg base A outer s H) (hl:vs.length=ps.length) (r:Vals vs us)
  (x:InCallC s s.heap.objs.size (bindL (envOfC qual scope s.heap.objs.size f cd).kindOf (ps.zip us) fun _=>none) (cellsFrom (s.heap.objs.size+1) scope.names []) (bindC (envOfC qual scope s.heap.objs.size f cd).kindOf (ps.zip us) fun _=>none) s1) :
  Inv (gq CX P w K mg base N qual scope f cd A outer s H E) [] (start N vs) H s1:=by
 have hpl:ps.length<=N.length:=by have:=lJ List.length S.pre; rw[iJ] at this; omega
 obtain⟨h1,tk,rfl,hk⟩:=x.done;have noA:∀b:Addr,b∉(gq CX P w K mg base N qual scope f cd A outer s H E).ex:=fun b z=>absurd (show b∈([]:List Addr) from z) (by simp)
 refine⟨⟨e0.mod,S.kind,rfl,rfl,bc _,fun y z c h1 h2=>?_,fun y hy=>?_,fun y c _ h=>?_,fun _=>hd,Around.frames_deeper e0.frames,.inr ⟨rfl,rfl⟩,fun b z=>absurd z (noA b),e0.bs,e0.M4,fun b _ _=>noA b,fun b z=>absurd z (noA b),e0.sZ,e0.VV⟩,
  rfl,e0.bare,Un.kept hk,⟨_,x.toInCall.ns,fun i y v h1 h2 h3=>?_⟩,fun y c h=>⟨_,x.cell y c h⟩,e0.hok.fresh (bc _),fun y c h=>?_,fun p hp=>absurd (show p∈([]:List (Addr×Obj)) from hp) (by simp),e0.hok.kept hk,?_⟩
 ·exact name_of_addr x.apart (PySem.mem_of_lookup h1) (PySem.mem_of_lookup h2)
 ·have hy:scope.names.lookup y=some .cell\/scope.names.lookup y=some .free:=hy;rcases hy with hy | hy
  ·exact FP hy
  ·exact absurd rfl (S.Xl _ (PySem.mem_of_lookup hy))
 ·exact lK (x.above y c (PySem.mem_of_lookup h))
 ·have hi:i<vs.length:=by
   unfold start at h2;by_cases hi:i<vs.length
   ·exact hi
   ·rw[uy (by simpa using hi)] at h2
    rw[Jv] at h2;split at h2 <;> cases h2
  have ha:vs[i]?=some v:=by
   unfold start at h2;rw[yd (by simpa using hi),cD] at h2
   cases e:vs[i]? with
   | none=>rw[e] at h2; cases h2
   | some a=>rw[e] at h2; cases h2; rfl
  obtain⟨u,hu,rv⟩:=r.get ha
  have hp:ps[i]?=some y:=by
   rw[<- S.pre,List.getElem?_take_of_lt ∅]; exact h1
  have ndP:ps.Nodup:=by rw[<- S.pre]; exact S.nd.sublist (List.take_sublist _ _)
  refine⟨u,rv,?_⟩;rcases S.par y (dN hp) with k | k
  ·exact .inl ⟨k,Ag ndP hp hu k⟩
  ·obtain⟨c,e⟩:=FP (n:=s.heap.objs.size+1) k;refine .inr ⟨.inl k,c,e,?_⟩;have q:=x.cell y c e;rw[Ai ndP hp hu (by show scope.names.lookup y≠_; rw[k]; decide)] at q
   exact q
 ·exact e0.hok.fresh (lK (x.above y c (PySem.mem_of_lookup h)))
 ·unfold start;show _=N.length;rw[cF,bZ,pX];omega
theorem V1{CX:Kq}{P:AC}{w:World}{K:Frag}{mg:Str->Option AA}{base:Heap}{k:Nat}{f:Addr}{name qual:Str}{params:Arguments}{body:List Stmt}{scope:Scope}{dV kV doc pm cdv ct oc:AA}{an od:Option Addr}
  {osl:Array (Option AA)} {N ps:List Str} {sp:Sp} (lk:K.lookup f=some ⟨oc,od,.func (fnOf name qual params body scope dV kV doc pm an cdv ct),osl⟩) (hcd:codeIn K cdv qual=true) (S:aX N ps scope)
  (len:∀vs H Q E,sp vs H Q E->vs.length=ps.length)
  (hbody:∀(A:Around)(outer:List Env)(s:AB)(H:Hp)(vs:List V)(Q:VK)(E:XK),dR k (A.deeper (envOfC qual scope s.heap.objs.size f cdv))->sp vs H Q E ->
   ∃t,Aj (gq CX P w K mg base N qual scope f cdv A outer s H E) body t/\t { nx:=fun _ H'=>Q .non H',rt:=Q } (start N vs) H) :
  bH P w K mg base CX (k+1) f (fnOf name qual params body scope dV kV doc pm an cdv ct) ps sp:=by
 refine⟨len,fun A outer s H args us vs Q E hr e0 hb r hsp=>?_⟩;have hl:=len _ _ _ _ hsp;have KX:K.In s.heap:=e0.mod.Qq.keeps fun b o e=>(e0.bs b o e).1;have lim:s.heap.NoLimit:=e0.mod.nolimit.keeps fun b o e=>(e0.bs b o e).1
 have hkind:∀y∈ps.zip us,scope.names.lookup y.1=some .local\/(scope.names.lookup y.1=some .cell/\((cellsFrom (s.heap.objs.size+1) scope.names []).lookup y.1).isSome=true):=fun⟨n,v⟩ hy=>by
  rcases S.par n (Ej hy).1 with q | q
  ·exact .inl q
  ·exact .inr ⟨q,cellsFrom_some _ _ _ (.inl q)⟩
 refine codeAny_call_function hr.depth (KX _ _ lk) rfl S.co S.gen rfl (codeRec_of KX hcd) (hb _ _ _ _ ?_);refine wpAny_newFunctionEnv_cells S.kind hkind fun env he s1 x=>?_;subst he;refine⟨lim.keeps x.toInCall.keep,codeAny_func ?_⟩;obtain⟨t,ht,hq⟩:=hbody A outer s H vs Q E (hr.deeper _) hsp;have I:Inv (gq CX P w K mg base N qual scope f cdv A outer s H E) [] (start N vs) H s1:=zX S hr.hd e0 hl r x;refine jj (ht [] s1 (start N vs) H _ I hq) (fun fl s' hs=>?_) fun e s' hs=>hs
 have fin:∀{σ':St}{H':Hp}{v:V}{u:AA},Inv (gq CX P w K mg base N qual scope f cdv A outer s H E) [] σ' H' s'->RelV v u->Q v H'->CE outer P w H s Q u s':=
  fun {σ' H' v u} J rv q=>⟨v,H',J.os,J.bare,J.base,J.hok,rv,q⟩
 cases fl with
 | ret u=>
  obtain⟨v,σ',H',J,rv,q⟩:=hs;exact fin J rv q
 | next=>
  obtain⟨σ',H',J,q⟩:=hs;exact fin (v:=V.non) (u:=Value.none) J rfl q
 | brk=>
  obtain⟨_,_,_,q⟩:=hs;exact False.elim q
 | cont=>
  obtain⟨_,_,_,q⟩:=hs;exact False.elim q
section
variable{X:Cx}{x:Str}{p pos:Pos}{e:Expr}{es:List Expr}{t:TA}{id T:String}{r:List V->Hp->VK->Prop}
def YF(r:List V->Hp->VK->Prop)(t:TA):TE:=fun σ H Q=>t σ H fun vs H1=>r vs H1 Q
theorem PN(hc:cJ X (.builtin id) r)(hg:Gl X x)(hm:X.mg x=none)(hv:bootBuiltins x=some (.builtin id))(ha:PA X (e::es) t)(hn:(x ≠ "__name__")⁻¹)(hdb:((x==("__debug__" : Str))=false)⁻¹)
  (he: ~~~(starEach (e::es) X.env=(false,eval e X.env)::starEach es X.env)) (hpl: ~~~((backTo pos (starEach es X.env)).any (·.1)=false)):PE X (.Call (.Name x p) (e::es) [] pos) (YF r t):=by
 symm;intro Q I h;refine qQ (gZ I hg hm hv ?_ hn hdb);exact PyProof.Rows.callWith_builtin1 (cA (ha pos ae s σ H _ I h) fun us s1 ⟨vs,H1,I1,r1,q1⟩=>hc ae s1 σ H1 vs us Q I1 r1 q1) he hpl
theorem Li(hc:cJ X (.type T) r)(hg:Gl X x)(hm:X.mg x=none)(hv:bootBuiltins x=some (.type T))(ha:PA X (e::es) t)(hn:(x ≠ "__name__")⁻¹)(hdb:((x==("__debug__" : Str))=false)⁻¹)
  (he: ~~~(starEach (e::es) X.env=(false,eval e X.env)::starEach es X.env)) (hpl: ~~~((backTo pos (starEach es X.env)).any (·.1)=false)):PE X (.Call (.Name x p) (e::es) [] pos) (YF r t):=by
 symm;intro Q I h;refine qQ (gZ I hg hm hv ?_ hn hdb);exact PyProof.Rows.callWith_type1 (cA (ha pos ae s σ H _ I h) fun us s1 ⟨vs,H1,I1,r1,q1⟩=>hc ae s1 σ H1 vs us Q I1 r1 q1) he hpl
end
end _L
namespace HT
open PySem PyProof.Rows
section
open PySem.SeqAt
open PySem.AutoSeq1 (wpAny_loadPart')
open PySem.MeetsSeq PySem.MeetsSeq2 PySem.MeetsSeq3
end
section
variable{prog:AC}{w:World}{A:Around}{E:AA->AB->Prop}{s:AB}
theorem U0{t b:Addr}{vs ws:List AA}{Q:AA->AB->Prop}(ht:IsTup s.heap t vs.toArray)(hb:IsTup s.heap b ws.toArray)(hv:vs≠[])
  (h1:ws=[]->Q (.ref t) s) (h2:ws≠[]->Q (.ref s.heap.objs.size) { s with heap:=s.heap.push { cls:=.type "tuple",data:=.seq (vs++ws).toArray } })
  (hsz:vs.length+ws.length<=sizeLine):wpAny (model prog w) A (binaryOp .Add (.ref t) (.ref b)) Q E s:=by
 obtain⟨⟨cls,dd,data,sl⟩,ho,hc,n,hd⟩:=id ht;obtain⟨⟨cls2,dd2,data2,sl2⟩,ho2,hc2,n2,hd2⟩:=id hb;simp only at hc hd hc2 hd2;subst hc hd hc2 hd2;have e:vs.toArray++ws.toArray=(vs++ws).toArray:=by simp
 by_cases hw:ws=[]
 ·exact concat_meets ⟨_,ho,rfl⟩ ⟨_,ho2,rfl⟩ noFill_tuple_add seq_tuple_add PySem.F.slot_tuple_add PySem.F.entry_tuple_add (PySem.F.args_tuple_add_2 _ _)
   (tuple_addW1 t b vs.toArray ws.toArray n n2 dd dd2 sl sl2 (by simpa using hv) (by simp[hw])) ⟨ho,ho2,h1 hw⟩
 ·refine concat_meets ⟨_,ho,rfl⟩ ⟨_,ho2,rfl⟩ noFill_tuple_add seq_tuple_add PySem.F.slot_tuple_add PySem.F.entry_tuple_add (PySem.F.args_tuple_add_2 _ _)
   (tuple_addW2 t b vs.toArray ws.toArray n n2 dd dd2 sl sl2 (by simpa using hv) (by simpa using hw) (by rw[d_,d_]; exact hsz)) ⟨ho,ho2,?_⟩
  rw[e];exact h2 hw
def fV(n d:Nat):Option Int->Nat
 | none=>d
 | some v=>if v<0 then(v+(n:Int)).toNat else min v.toNat n
theorem DK(n d:Nat):fV n d none=d:=rfl
theorem uT(n d k:Nat):fV n d (some (k:Int))=min k n:=by
 show(if(k:Int)<0 then((k:Int)+(n:Int)).toNat else min (k:Int).toNat n)=min k n
 rw[aN ∅,qN]
theorem Wy(n d:Nat)(hd:d<=n)(o:Option Int):fV n d o<=n:=by
 cases o with
 | none=>exact hd
 | some v=>
  show(if v<0 then(v+(n:Int)).toNat else min v.toNat n)<=n
  by_cases hv:v<0
  ·rw[aV hv]; omega
  ·rw[aN hv]; exact Nat.min_le_right _ _
theorem Kg(v:Int)(n d:Nat):(if v<0 then max (v+(n:Int)) 0 else min v (n:Int))=((fV n d (some v):Nat):Int):=by
 show(if v<0 then max (v+(n:Int)) 0 else min v (n:Int))=(((if v<0 then(v+(n:Int)).toNat else min v.toNat n):Nat):Int)
 by_cases hv:v<0
 ·simp only[aV hv]; omega
 ·simp only[aN hv]; omega
theorem Ie(lo hi:Option Int)(n:Nat):Builtin.Slice.sliceAdjust lo hi 1 (n:Int)=(((fV n 0 lo:Nat):Int),((fV n n hi:Nat):Int)):=by
 have h1:¬((1:Int)<0):=by omega
 unfold Builtin.Slice.sliceAdjust;simp only[h1,if_false];refine Prod.ext ?_ ?_
 ·cases lo with
  | none=>rfl
  | some v=>exact Kg v n 0
 ·cases hi with
  | none=>rfl
  | some v=>exact Kg v n n
theorem G_(i j:Nat):Builtin.Slice.slicePlaces (i:Int) (j:Int) 1=j-i:=by
 unfold Builtin.Slice.slicePlaces;have h1:(1:Int)>0:=by omega
 simp only[h1,if_true,Int.ediv_one];split <;> omega
theorem vL{v:AA}{o:Option Int}{Q:Option Int->AB->Prop}(p:IsPart v o)(h:Q o s):wpAny (model prog w) A (Builtin.Slice.slicePartIndex v) Q E s:=by
 cases p with
 | none=>exact slicePart_none h
 | int i t=>exact slicePart_int h
theorem kW{sl:Addr}{vl vu:AA}{lo hi:Option Int}{n:Nat}{Q:Int×Int×Nat->AB->Prop}(hs:s.heap.IsSliceOf sl vl vu .none)(pl:IsPart vl lo)(pu:IsPart vu hi)
  (h:Q (((fV n 0 lo:Nat):Int),1,fV n n hi-fV n 0 lo) s):wpAny (model prog w) A (Builtin.Slice.sliceApplied (.ref sl) (pure (n:Int))) Q E s:=by
 obtain⟨os,hos,hcs,hds⟩:=id hs;unfold Builtin.Slice.sliceApplied Builtin.Slice.sliceFields;refine aL (aL (gF hos hds (x:=vl) rfl (aL (gF hos hds (x:=vu) rfl (aL (gF hos hds (x:=.none) rfl (bL ?_)))))));refine aL (slicePart_none ?_);show wpAny _ _ (if((1:Int)==0)=true then _ else _) _ _ s
 rw[aN ⋯]
 refine aL (vL pl (aL (vL pu (aL (bL ?_)))));show wpAny _ _ (match Builtin.Slice.sliceAdjust lo hi 1 (n:Int) with | (lo,hi)=>pure (lo,(1:Int),Builtin.Slice.slicePlaces lo hi 1)) _ _ s
 rw[Ie lo hi n];show wpAny _ _ (pure (((fV n 0 lo:Nat):Int),(1:Int),Builtin.Slice.slicePlaces ((fV n 0 lo:Nat):Int) ((fV n n hi:Nat):Int) 1)) _ _ s;rw[G_];exact bL h
theorem Pz(xs:Array AA)(i k:Nat):((List.range k).filterMap fun(m:Nat)=>xs[((i:Int)+(m:Int)*1).toNat]?).toArray=((xs.toList.drop i).take k).toArray:=by
 have e:(fun(m:Nat)=>xs[((i:Int)+(m:Int)*1).toNat]?)=fun m=>xs[i+m]?:=by
  funext m
  have:((i:Int)+(m:Int)*1).toNat=i+m:=by omega
  rw[this]
 rw[e];have:=pick_run xs i k;rw[List.filterMap_map] at this;have e2:((fun x=>xs[x]?)∘fun x=>i+x)=fun m=>xs[i+m]?:=rfl;rw[e2] at this;rw[this]
theorem q_{t sl:Addr}{items:Array AA}{vl vu:AA}{lo hi:Option Int}{Q:AA->AB->Prop}(ht:IsTup s.heap t items)(hs:s.heap.IsSliceOf sl vl vu .none)(pl:IsPart vl lo)(pu:IsPart vu hi)
  (hw:¬(fV items.size 0 lo=0/\fV items.size items.size hi=items.size))
  (h:Q (.ref s.heap.objs.size) { s with heap:=s.heap.push { cls:=.type "tuple",data:=.seq ((items.toList.drop (fV items.size 0 lo)).take (fV items.size items.size hi-fV items.size 0 lo)).toArray } })
  (hsz:items.size<=sizeLine):wpAny (model prog w) A (getItem (.ref t) (.ref sl)) Q E s:=by
 have J6:sizeOk (.seq ((items.toList.drop (fV items.size 0 lo)).take (fV items.size items.size hi-fV items.size 0 lo)).toArray):=by
  show((items.toList.drop (fV items.size 0 lo)).take (fV items.size items.size hi-fV items.size 0 lo)).toArray.size<=sizeLine;rw[d_,iJ,uw,Jr];omega
 have hj:fV items.size items.size hi<=items.size:=Wy _ _ (bc _) hi;obtain⟨os,hos,hcs,hds⟩:=id hs;have hTs:s.TypeIs (.ref sl) "slice" := ⟨os,hos,hcs⟩;unfold getItem
 try with_reducible refine kY ?_
 first | refine aL (bL ?_) | skip
 refine aL (wpAny_sequenceKey ht.typeIs ⋯ ?_)
 refine aL (yc (name:=Str.ofString "__getitem__") ht.typeIs PyProof.Rows.slot_tuple_getitem
  (sO PyProof.Rows.slot_tuple_getitem ht.typeIs entry_tuple_getitem ?_ (args_tuple_getitem _ _)))
 show wpAny _ _ (Builtin.Tuple.tupleItemsOf (.ref t) >>= _) _ _ s;refine aL (tupleItemsOf_ ht ?_);refine aL (Bd hTs ?_);rw[aV ⋯]
 refine aL (kW hs pl pu ?_)
 have hno:¬((((fV items.size 0 lo:Nat):Int)==0&&(1:Int)==1&&(fV items.size items.size hi-fV items.size 0 lo)==items.size)=true):=by
  intro q;rw[DX,DX] at q;have q1:((fV items.size 0 lo:Nat):Int)=0:=eq_of_beq q.1.1;have q2:fV items.size items.size hi-fV items.size 0 lo=items.size:=eq_of_beq q.2;exact hw ⟨∅,∅⟩
 show wpAny _ _ (if(((fV items.size 0 lo:Nat):Int)==0&&(1:Int)==1&&(fV items.size items.size hi-fV items.size 0 lo)==items.size)=true then _ else _) _ _ s
 rw[aN hno,Pz]
 first
  | exact aL (m:=Builtin.Tuple.tupleExact _) (qP (bL ⟨_,rfl,bL h⟩) J6)
  | exact aL (m:=Builtin.Tuple.tupleExact _) (qP (aL (bL (bL ⟨_,rfl,bL h⟩))) J6)
  | exact aL (aL (m:=Builtin.Tuple.tupleExact _) (qP (bL (bL ⟨_,rfl,bL h⟩)) J6))
  | exact aL (aL (m:=Builtin.Tuple.tupleExact _) (qP (bL ⟨_,rfl,bL h⟩) J6))
end
end HT
namespace _L
open PySem PySem.Spec PyProof.Rows
abbrev TO:=St->Hp->(Option Int->Hp->Prop)->Prop
structure PO(X:Cx)(e:Option Expr)(t:TO):Prop where
 mk ::
 go :
 ∀(ae:List (Addr×Obj))(s:AB)(σ:St)(H:Hp)(Q:Option Int->Hp->Prop),Inv X ae σ H s->t σ H Q ->
  wpAny (model X.prog X.w) X.A (evalPart e X.env) (fun u s'=>∃o H',Inv X ae σ H' s'/\IsPart u o/\Q o H') X.xe s
instance {X:Cx} {e:Option Expr} {t:TO}:CoeFun (PO X e t) (fun _=>
 ∀(ae:List (Addr×Obj))(s:AB)(σ:St)(H:Hp)(Q:Option Int->Hp->Prop),Inv X ae σ H s->t σ H Q ->
  wpAny (model X.prog X.w) X.A (evalPart e X.env) (fun u s'=>∃o H',Inv X ae σ H' s'/\IsPart u o/\Q o H') X.xe s):=⟨PO.go⟩
def IK:TO:=fun _ H Q=>Q none H
def Vh(t:TE):TO:=fun σ H Q=>t σ H fun x H1=>∃i,x=.int i/\Q (some i) H1
section
variable{X:Cx}{e:Expr}{te:TE}{lo hi:Option Expr}{tl th:TO}{pos p2:Pos}
theorem eZ:PO X none IK:=by
 symm;intro Q I h;rw[evalPart_none];exact bL ⟨none,H,I,.none,h⟩
theorem dG(h:PE X e te):PO X (some e) (Vh te):=by
 symm;intro Q I hw;rw[evalPart_some];refine cA (h ae s σ H _ I hw) fun u s1 qx=>?_;obtain⟨x,H1,I1,r1,q1⟩:=qx;obtain⟨i,rfl,q⟩:=q1;obtain⟨t,rfl⟩:=r1;exact⟨some i,H1,I1,.int i t,q⟩
structure Yl(X:Cx)(r:V->Option Int->Option Int->Hp->VK->Prop):Prop where
 mk ::
 go :
 ∀(ae:List (Addr×Obj))(s:AB)(σ:St)(H:Hp)(x:V)(v vl vu:AA)(lo hi:Option Int)(sl:Addr)(Q:VK),Inv X ae σ H s->RelV x v->s.heap.IsSliceOf sl vl vu .none->IsPart vl lo->IsPart vu hi->r x lo hi H Q ->
  ∃T id,typeLookup (.type T) "__getitem__" = pure (some (.builtin id))/\s.TypeIs v T/\wpAny (model X.prog X.w) X.A (getItem v (.ref sl)) (EP X ae σ Q) X.xe s
instance {X:Cx} {r:V->Option Int->Option Int->Hp->VK->Prop}:CoeFun (Yl X r) (fun _=>
 ∀(ae:List (Addr×Obj))(s:AB)(σ:St)(H:Hp)(x:V)(v vl vu:AA)(lo hi:Option Int)(sl:Addr)(Q:VK),Inv X ae σ H s->RelV x v->s.heap.IsSliceOf sl vl vu .none->IsPart vl lo->IsPart vu hi->r x lo hi H Q ->
  ∃T id,typeLookup (.type T) "__getitem__" = pure (some (.builtin id))/\s.TypeIs v T/\wpAny (model X.prog X.w) X.A (getItem v (.ref sl)) (EP X ae σ Q) X.xe s):=⟨Yl.go⟩
def tSl(r:V->Option Int->Option Int->Hp->VK->Prop)(te:TE)(tl th:TO):TE:=fun σ H Q=>te σ H fun x H1=>tl σ H1 fun l H2=>th σ H2 fun u H3=>r x l u H3 Q
theorem cW{r:V->Option Int->Option Int->Hp->VK->Prop}(hr:Yl X r)(he:PE X e te)(hl:PO X lo tl)(hu:PO X hi th):PE X (.Subscript e (.Slice lo hi none p2) pos) (tSl r te tl th):=by
 symm;intro Q I h;refine Subscript_ (cA (he ae s σ H _ I h) fun v s1 qx=>?_);obtain⟨x,H1,I1,r1,q1⟩:=qx;refine wpAny_Slice (cA (hl ae s1 σ H1 _ I1 q1) fun vl s2 ⟨l,H2,I2,pl,q2⟩=>cA (hu ae s2 σ H2 _ I2 q2) fun vu s3 qx=>?_);obtain⟨u,H3,I3,pu,q3⟩:=qx;rw[evalPart_none];refine bL ?_;have I4:Inv X ae σ H3 { s3 with heap:=s3.heap.push { cls:=.type "slice",data:=.fields #[vl,vu,.none] } }:=I3.kept (t':=s3.toks) fun b ob q=>cU _ q
 obtain⟨T,id,hT,ht,hg⟩:=hr ae { s3 with heap:=s3.heap.push { cls:=.type "slice",data:=.fields #[vl,vu,.none] } } σ H3 x v vl vu l u s3.heap.objs.size Q I4 r1 (Heap.IsSliceOf.new ..) pl pu q3
 show wpAny (model X.prog X.w) X.A (subscriptTail e (.Slice lo hi none p2) v (.ref s3.heap.objs.size)) (EP X ae σ Q) X.xe { s3 with heap:=s3.heap.push { cls:=.type "slice",data:=.fields #[vl,vu,.none] } }
 exact tail_any (ops:=[.ref s3.heap.objs.size,v]) ht hT hg (by with_unfolding_all rfl)
def qj(xs:List V)(lo hi:Option Int):List V:=(xs.drop (HT.fV xs.length 0 lo)).take (HT.fV xs.length xs.length hi-HT.fV xs.length 0 lo)
theorem uo(xs:List V)(lo hi:Option Int):(qj xs lo hi).length<=xs.length:=by
 unfold qj;rw[iJ,uw];omega
def acY(K:Frag):V->Option Int->Option Int->Hp->VK->Prop:=fun x lo hi H Q=>∃a xs,x=.ref a/\dU K H a xs /\
 ¬(HT.fV xs.length 0 lo=0/\HT.fV xs.length xs.length hi=xs.length)/\∀p,H p=none->Q (.ref p) (upd H p (.tup (qj xs lo hi)))
theorem Ww:Yl X (acY X.K):=by
 symm;intro x v vl vu lo hi sl Q I rx hs pl pu h;obtain⟨a,xs,rfl,hx,hw,q⟩:=h;cases rx;obtain⟨its,r,ht,hz⟩:=I.tuple hx;have hlen:its.toArray.size=xs.length:=by rw[d_]; exact r.length.symm
 refine⟨"tuple",_,PyProof.Rows.slot_tuple_getitem.lookup,ht.typeIs,?_⟩;refine HT.q_ ht hs pl pu (by rw[hlen]; exact hw) ?_ (by rw[hlen]; exact hz)
 rw[hlen];refine⟨.ref s.heap.objs.size,_,I.laid (t':=s.toks) (o:=.tup (qj xs lo hi)) (fun b ob q=>cU _ q) (bc _) ?_,rfl,q _ (I.hok.fresh (bc _))⟩;exact⟨jJ (uo xs lo hi) hz,_,(r.drop (HT.fV xs.length 0 lo)).take (HT.fV xs.length xs.length hi-HT.fV xs.length 0 lo),IsTup.new _ _⟩
def aav(K:Frag):R2:=fun x y H Q=>∃a b xs ys,x=.ref a/\y=.ref b/\dU K H a xs/\dU K H b ys/\xs≠[]/\xs.length+ys.length<=sizeLine /\
 (ys=[]->Q (.ref a) H)/\(ys≠[]->∀p,H p=none->Q (.ref p) (upd H p (.tup (xs++ys))))
theorem Vals.BL{xs:List V}{us:List AA}(r:Vals xs us):us=[]↔xs=[]:=by
 cases r with
 | nil=>simp
 | cons _ _=>simp
theorem Tz:mX X (binaryOp .Add) (aav X.K):=by
 symm;intro x y v u Q I rx ry h;obtain⟨a,b,xs,ys,rfl,rfl,ha,hb,hx,hz,q1,q2⟩:=h;cases rx;cases ry;obtain⟨its,r1,p1,_⟩:=I.tuple ha;obtain⟨its2,r2,p2,_⟩:=I.tuple hb;refine HT.U0 p1 p2 (fun z=>hx (r1.BL.mp z)) (fun z=>⟨.ref a,H,I,rfl,q1 (r2.BL.mp z)⟩) (fun z=>?_) (by rw[<- r1.length,<- r2.length]; exact hz)
 refine⟨.ref s.heap.objs.size,_,I.laid (t':=s.toks) (o:=.tup (xs++ys)) (fun b ob q=>cU _ q) (bc _) ?_,rfl,q2 (fun w=>z (r2.BL.mpr w)) _ (I.hok.fresh (bc _))⟩;exact⟨by rw[cF]; exact hz,_,r1.append r2,IsTup.new _ _⟩
end
def Qu(n:Nat)(i:Int):Option Nat:=if 0<=i then(if i<n then some i.toNat else none) else if -(n:Int)<=i then some (i+n).toNat else none
def Dj{α:Type}(xs:List α)(i:Int):Option α:=(Qu xs.length i).bind fun j=>xs[j]?
theorem J0{n:Nat}{i:Int}{j:Nat}(h:Qu n i=some j):seqIndex? i n=some j/\j<n/\-(n:Int)<=i/\i<n:=by
 unfold Qu at h;by_cases h0:0<=i
 ·rw[aV h0] at h;by_cases h1:i<n
  ·rw[aV h1] at h;have e:i.toNat=j:=Option.some.inj h;exact⟨by rw[seqIndex_of h0 h1,e],∅,∅,h1⟩
  ·rw[aN h1] at h; cases h
 ·rw[aN h0] at h;by_cases h1:-(n:Int)<=i
  ·rw[aV h1] at h;have e:(i+n).toNat=j:=Option.some.inj h;exact⟨by rw[seqIndex_neg ∅ h1,e],∅,h1,∅⟩
  ·rw[aN h1] at h; cases h
theorem CW{α:Type}{xs:List α}{i:Int}{v:α}(h:Dj xs i=some v):∃j,seqIndex? i xs.length=some j/\xs[j]?=some v/\j<xs.length/\-(xs.length:Int)<=i/\i<xs.length:=by
 unfold Dj at h;cases e:Qu xs.length i with
 | none=>rw[e] at h; cases h
 | some j=>
  rw[e] at h;obtain⟨h1,h2,h3,h4⟩:=J0 e;exact⟨j,h1,h,h2,h3,h4⟩
theorem aY{α:Type}{xs:List α}{j:Nat}{v:α}(h:xs[j]?=some v):Dj xs (j:Int)=some v:=by
 have hj:j<xs.length:=(iW.mp h).1
 have e:Qu xs.length (j:Int)=some j:=by
  unfold Qu;rw[aV ∅,aV ∅]; simp
 unfold Dj; rw[e]; exact h
theorem Ri{α:Type}(xs:List α)(v:α):Dj (xs++[v]) (-1)=some v:=by
 have hl:(xs++[v]).length=xs.length+1:=by simp
 have e:Qu (xs++[v]).length (-1)=some xs.length:=by
  unfold Qu;rw[hl,aN ⋯,aV ∅]
  congr 1
  omega
 unfold Dj;rw[e];show(xs++[v])[xs.length]?=some v;simp
def U_(b:Expr):Prop:=∀o i,subscripted b false o i=operate [o,i] (getItem o i)
structure Nq(X:Cx)(r:R2):Prop where
 mk ::
 go :
 ∀(value slice:Expr)(ae:List (Addr×Obj))(s:AB)(σ:St)(H:Hp)(x y:V)(v u:AA)(Q:VK),Inv X ae σ H s->RelV x v->RelV y u->r x y H Q ->
  subscripted slice false v u=operate [v,u] (getItem v u)->wpAny (model X.prog X.w) X.A (subscriptTail value slice v u) (EP X ae σ Q) X.xe s
instance {X:Cx} {r:R2}:CoeFun (Nq X r) (fun _=>
 ∀(value slice:Expr)(ae:List (Addr×Obj))(s:AB)(σ:St)(H:Hp)(x y:V)(v u:AA)(Q:VK),Inv X ae σ H s->RelV x v->RelV y u->r x y H Q ->
  subscripted slice false v u=operate [v,u] (getItem v u)->wpAny (model X.prog X.w) X.A (subscriptTail value slice v u) (EP X ae σ Q) X.xe s):=⟨Nq.go⟩
def MtR(X:Cx)(id:String)(r:V->List V->Hp->VK->Prop):Prop:=
 ∀(ae:List (Addr×Obj))(s:AB)(σ:St)(H:Hp)(x:V)(xs:List V)(v:AA)(us:List AA)(Q:VK),Inv X ae σ H s->RelV x v->Vals xs us->r x xs H Q ->
  wpAny (model X.prog X.w) X.A (call (.builtin id) (v::us)) (EP X ae σ Q) X.xe s
section
variable{X:Cx}{a b:Expr}{ta tb:TE}{pos:Pos}
theorem Nq.or{r r':R2}(h:Nq X r)(h':Nq X r'):Nq X (fun x y H Q=>r x y H Q\/r' x y H Q):=by
 refine .mk ?_;intro value slice ae s σ H x y v u Q I rx ry q hs;rcases q with q | q
 ·exact h value slice ae s σ H x y v u Q I rx ry q hs
 ·exact h' value slice ae s σ H x y v u Q I rx ry q hs
theorem bx{r:R2}(hr:Nq X r)(ha:PE X a ta)(hb:PE X b tb)(hs:U_ b):PE X (.Subscript a b pos) (R4 r ta tb):=by
 symm;intro Q I h;exact Subscript_ (Yi ha hb I h fun v u s2 x y H2 I2 rx ry q=>hr a b ae s2 σ H2 x y v u Q I2 rx ry q (hs _ _))
def ac5(K:Frag):R2:=fun x y H Q=>∃p xs i v,x=.ref p/\y=.int i/\cz K H p xs/\Dj xs i=some v/\Q v H
def ac4(K:Frag):R2:=fun x y H Q=>∃p xs i v,x=.ref p/\y=.int i/\dU K H p xs/\Dj xs i=some v/\Q v H
def aao:R2:=fun x y H Q=>∃z i c,x=.str z/\y=.int i/\z.length<=sizeLine/\Dj z.cps.toList i=some c/\Q (.str ⟨#[c]⟩) H
theorem JZ:Nq X (ac5 X.K):=by
 refine .mk ?_;intro value slice ae s σ H x y v u Q I rx ry h hs;obtain⟨p,xs,i,z,rfl,rfl,hq,he,q⟩:=h;cases rx;obtain⟨t,rfl⟩:=ry;obtain⟨its,r,pl,hz⟩:=I.list hq;obtain⟨j,h1,h2,h3,h4,h5⟩:=CW he;obtain⟨w,ew,Bb⟩:=r.get h2;have hl:=r.length;have hn:=p_;have fin:EP X ae σ Q w s:=⟨z,H,I,Bb,q⟩;by_cases h0:0<=i
 ·have hj:i.toNat=j:=by
   rw[seqIndex_of h0 h5] at h1;exact Option.some.inj h1
  exact item_listR pl.isList h0 ∅ (by rw[hj]; simpa using ew) fin hs
 ·have hj:(i+(its.toArray.size:Int)).toNat=j:=by
   rw[seqIndex_neg ∅ h4] at h1
   rw[d_,<- hl];exact Option.some.inj h1
  exact subscriptTail_builtinR (x:=w) pl.isList.typeIs slot_list_getitem.lookup
   (wpAny_getItem_list_neg (Q:=fun r s'=>r=w/\EP X ae σ Q r s') pl.isList ∅ (by rw[d_] <;> omega) ∅ (by rw[hj]; simpa using ew) ⟨rfl,fin⟩) hs
theorem XH:Nq X (ac4 X.K):=by
 refine .mk ?_;intro value slice ae s σ H x y v u Q I rx ry h hs;obtain⟨p,xs,i,z,rfl,rfl,hq,he,q⟩:=h;cases rx;obtain⟨t,rfl⟩:=ry;obtain⟨its,r,pl,hz⟩:=I.tuple hq;obtain⟨j,h1,h2,h3,h4,h5⟩:=CW he;obtain⟨w,ew,Bb⟩:=r.get h2;have hl:=r.length;have hn:=p_;have fin:EP X ae σ Q w s:=⟨z,H,I,Bb,q⟩;exact subscriptTail_builtinR (x:=w) pl.typeIs slot_tuple_getitem.lookup
  (getItem_tuple (j:=j) (Q:=fun r s'=>r=w/\EP X ae σ Q r s') pl ∅ ∅ (by rw[d_,<- hl]; exact h1) (by simpa using ew) ⟨rfl,fin⟩) hs
theorem Hr:Nq X aao:=by
 refine .mk ?_;intro value slice ae s σ H x y v u Q I rx ry h hs;obtain⟨z,i,c,rfl,rfl,hz,he,q⟩:=h;obtain⟨t,rfl⟩:=rx;obtain⟨t',rfl⟩:=ry;obtain⟨j,h1,h2,h3,h4,h5⟩:=CW he;have hl:z.cps.toList.length=z.length:=by simp[Str.length]
 rw[hl] at h1 h4 h5;have hn:=p_
 exact tail_any (typeIs_str s z t) slot_str_getitem.lookup (getItem_str (c:=c) (by
  have e1:decide (i < -(2 ^ 63:Int))=false:=j4 ∅
  have e2:decide (i≥2 ^ 63)=false:=j4 ∅
  rw[e1,e2,Bool.or_false]) (by rw[h1]; simpa using h2) ⟨.str ⟨#[c]⟩,H,I.tok _,⟨_,rfl⟩,q⟩) hs
theorem Hl(its:List AA)(n j:Nat)(u:AA):Obj.mapSeq (·.setIfInBounds j u) { cls:=.type "list",data:=.seq its.toArray n }={ cls:=.type "list",data:=.seq (its.set j u).toArray n }:=by
 simp[Obj.mapSeq]
theorem Inv.lst{ae:List (Addr×Obj)}{σ:St}{H:Hp}{s:AB}{p:Addr}{xs:List V}(I:Inv X ae σ H s)(h:H p=some (.lst xs)) :
  ∃(its:List AA)(n:Nat),Vals xs its/\s.heap.get? p=some { cls:=.type "list",data:=.seq its.toArray n }/\xs.length<=sizeLine:=by
 obtain⟨z,its,n,r,e⟩:=I.hok p _ h;exact⟨its,n,r,e,z⟩
theorem Inv.Xu{ae:List (Addr×Obj)}{σ:St}{H:Hp}{s:AB}{p:Addr}{xs ys:List V}{its its':List AA}{n n':Nat}{f:Obj->Obj}(I:Inv X ae σ H s)(h:H p=some (.lst xs))
  (ho:s.heap.get? p=some { cls:=.type "list",data:=.seq its.toArray n }) (hf:f { cls:=.type "list",data:=.seq its.toArray n }={ cls:=.type "list",data:=.seq its'.toArray n' }) (r:Vals ys its') (hz:ys.length<=sizeLine) (t:Nat) :
  Inv X ae σ (upd H p (.lst ys)) { s with heap:=s.heap.update p f,toks:=t }:=by
 have e:(s.heap.update p f).get? p=some { cls:=.type "list",data:=.seq its'.toArray n' }:=by
  rw[ux f ho (by rw[hf] <;> rfl),hf]
 refine I.write (x:=p) (e:=p) (by rw[h]; trivial) (.inl rfl) (fun b u hb q=>(kZ _ _ (Ne.symm hb)).trans q) ⟨_,e⟩ ?_
 exact⟨hz,its',n',r,e⟩
def aak:V->V->V->Hp->(Hp->Prop)->Prop:=fun o i v H Q=>∃p xs k j,o=.ref p/\i=.int k/\H p=some (.lst xs)/\Qu xs.length k=some j/\Q (upd H p (.lst (xs.set j v)))
theorem set_list:M_ X aak:=by
 symm;intro o i v ov iv u Q I ro ri rv h;obtain⟨p,xs,k,j,rfl,rfl,hp,hj,q⟩:=h;cases ro;obtain⟨t,rfl⟩:=ri;obtain⟨its,n,r,ho,hz⟩:=I.lst hp;obtain⟨h1,h2,h3,h4⟩:=J0 hj;have hl:=r.length;have hn:=p_
 have I':Inv X ae σ (upd H p (.lst (xs.set j v))) { s with heap:=s.heap.update p (Obj.mapSeq (·.setIfInBounds j u)) }:=
  I.Xu hp ho (Hl its n j u) (r.set rv j) (by rw[DW]; exact hz) s.toks
 by_cases h0:0<=k
 ·have hk:k.toNat=j:=by
   rw[seqIndex_of h0 h4] at h1;exact Option.some.inj h1
  exact PySem.W.ki_setAt ho h0 ∅ (by rw[d_,<- hl]; exact h4) (by rw[hk]; exact⟨_,I',q⟩)
 ·have hk:(k+(its.toArray.size:Int)).toNat=j:=by
   rw[seqIndex_neg ∅ h3] at h1
   rw[d_,<- hl];exact Option.some.inj h1
  exact PySem.W.ki_setBack ho ∅ (by rw[d_,<- hl]; exact h3) ∅ (by rw[hk]; exact⟨_,I',q⟩)
theorem Ay(lo hi:Option Int)(n:Nat):(sliceBounds lo hi none n).1=((HT.fV n 0 lo:Nat):Int)/\(sliceBounds lo hi none n).2.1=((HT.fV n n hi:Nat):Int)/\(sliceBounds lo hi none n).2.2=1:=by
 refine⟨?_,?_,rfl⟩
 ·cases lo with
  | none=>simp[sliceBounds,HT.fV]
  | some i=>
   simp only[sliceBounds,HT.fV,Option.getD_none,show(1:Int)>0 by decide,if_true]
   by_cases h:i<0
   ·simp only[h,if_true] <;> omega
   ·simp only[h,if_false] <;> omega
 ·cases hi with
  | none=>simp[sliceBounds,HT.fV]
  | some i=>
   simp only[sliceBounds,HT.fV,Option.getD_none,show(1:Int)>0 by decide,if_true]
   by_cases h:i<0
   ·simp only[h,if_true] <;> omega
   ·simp only[h,if_false] <;> omega
theorem xX(its:List AA)(lo hi:Option Int):slicePick its.toArray lo hi none=((its.drop (HT.fV its.length 0 lo)).take (HT.fV its.length its.length hi-HT.fV its.length 0 lo)).toArray:=by
 obtain⟨h1,h2,h3⟩:=Ay lo hi its.toArray.size;unfold slicePick;rw[h1,h2,h3];simp only[sliceRange_one,pick_run,d_] <;> rfl
def ac0(K:Frag):V->Option Int->Option Int->Hp->VK->Prop:=fun x lo hi H Q=>∃a xs,x=.ref a/\cz K H a xs/\∀p,H p=none->Q (.ref p) (upd H p (.lst (qj xs lo hi)))
theorem uR:Yl X (ac0 X.K):=by
 symm;intro x v vl vu lo hi sl Q I rx hs pl pu h;obtain⟨a,xs,rfl,hx,q⟩:=h;cases rx;obtain⟨its,r,ht,hz⟩:=I.list hx;have hlen:=r.length;refine⟨"list",_,slot_list_getitem.lookup,ht.isList.typeIs,?_⟩;refine wpAny_getItem_list_slice ht.isList hs pl pu .none (by simp) ?_ (by rw[d_] <;> omega)
 rw[xX,<- hlen];refine⟨.ref s.heap.objs.size,_,I.laid (t':=s.toks) (o:=.lst (qj xs lo hi)) (fun b ob q=>cU _ q) (bc _) ?_,rfl,q _ (I.hok.fresh (bc _))⟩;exact⟨jJ (uo xs lo hi) hz,_,0,(r.drop (HT.fV xs.length 0 lo)).take (HT.fV xs.length xs.length hi-HT.fV xs.length 0 lo),cI _ rfl⟩
def rA:V->Bool
 | .non=>true
 | .bl _=>true
 | .int _=>true
 | .str _=>true
 | _=>false
def Ry:V->V->Bool
 | .non,.non=>true
 | .bl a,.bl b=>a==b
 | .bl a,.int b=>(if a then 1 else 0)==b
 | .int a,.bl b=>a==(if b then 1 else 0)
 | .int a,.int b=>a==b
 | .str a,.str b=>a==b
 | _,_=>false
theorem X6{A:Around}{s:AB}{y x:V}{u v:AA}(ry:RelV y u)(rx:RelV x v)(fy:rA y=true)(fx:rA x=true):SeqAt.EqAt A s u v (Ry y x):=by
 cases y with
 | non=>
  cases ry;cases x with
  | non=>cases rx; exact SeqAt.EqAt.same _
  | bl b=>cases rx; exact SeqAt.EqAt.none_bool b
  | int b=>obtain⟨t,rfl⟩:=rx; exact SeqAt.EqAt.none_int b t
  | str b=>obtain⟨t,rfl⟩:=rx; exact SeqAt.EqAt.none_str b t
  | _=>exact absurd (show false=true from fx) iK
 | bl a=>
  cases ry;cases x with
  | non=>cases rx; exact SeqAt.EqAt.bool_none a
  | bl b=>cases rx; exact SeqAt.EqAt.bool_bool a b
  | int b=>obtain⟨t,rfl⟩:=rx; exact SeqAt.EqAt.bool_int a b t
  | str b=>obtain⟨t,rfl⟩:=rx; exact SeqAt.EqAt.bool_str a b t
  | _=>exact absurd (show false=true from fx) iK
 | int a=>
  obtain⟨t',rfl⟩:=ry;cases x with
  | non=>cases rx; exact SeqAt.EqAt.int_none a t'
  | bl b=>cases rx; exact SeqAt.EqAt.int_bool a t' b
  | int b=>obtain⟨t,rfl⟩:=rx; exact SeqAt.EqAt.int_int a t' b t
  | str b=>obtain⟨t,rfl⟩:=rx; exact SeqAt.EqAt.int_str a t' b t
  | _=>exact absurd (show false=true from fx) iK
 | str a=>
  obtain⟨t',rfl⟩:=ry;cases x with
  | non=>cases rx; exact SeqAt.EqAt.str_none a t'
  | bl b=>cases rx; exact SeqAt.EqAt.str_bool a t' b
  | int b=>obtain⟨t,rfl⟩:=rx; exact SeqAt.EqAt.str_int a t' b t
  | str b=>obtain⟨t,rfl⟩:=rx; exact SeqAt.EqAt.str_str a t' b t
  | _=>exact absurd (show false=true from fx) iK
 | _=>exact absurd (show false=true from fy) iK
def HF(x:V)(u:AA):Bool:=match u with
 | .none=>Ry .non x
 | .bool b=>Ry (.bl b) x
 | .int i _=>Ry (.int i) x
 | .str z _=>Ry (.str z) x
 | _=>false
theorem QW{x y:V}{u:AA}(r:RelV y u)(f:rA y=true):HF x u=Ry y x:=by
 cases y with
 | non=>cases r; rfl
 | bl b=>cases r; rfl
 | int i=>obtain⟨t,rfl⟩:=r; rfl
 | str z=>obtain⟨t,rfl⟩:=r; rfl
 | _=>exact absurd (show false=true from f) iK
theorem rN{x:V}:∀{xs:List V}{us:List AA},Vals xs us->xs.all rA=true->us.any (HF x)=xs.any fun y=>Ry y x
 | _,_,.nil,_=>rfl
 | y::xs,u::us,.cons r t,f=>by
  rw[List.all_cons,DX] at f;rw[wB,wB,QW r f.1,rN t f.2]
theorem nH{A:Around}{s:AB}{x:V}{v:AA}(rx:RelV x v)(fx:rA x=true):∀{xs:List V}{us:List AA},Vals xs us->xs.all rA=true->∀u∈us,SeqAt.EqAt A s u v (HF x u)
 | _,_,.nil,_=>fun u hu=>by cases hu
 | y::xs,u::us,.cons r t,f=>fun u' hu=>by
  rw[List.all_cons,DX] at f;rcases bK.mp hu with rfl | hu
  ·rw[QW r f.1]; exact X6 r rx f.1 fx
  ·exact nH rx fx t f.2 u' hu
def inV(x:V)(xs:List V):Bool:=xs.any fun y=>Ry y x
def rIn(K:Frag)(neg:Bool):R2:=fun x y H Q=>∃p xs,y=.ref p/\(cz K H p xs\/dU K H p xs)/\rA x=true/\xs.all rA=true/\Q (.bl (if neg then !inV x xs else inV x xs)) H
theorem Ln:mX X (compareOp .In) (rIn X.K false):=by
 symm;intro x y v u Q I rx ry h;obtain⟨p,xs,rfl,hq,fx,fs,q⟩:=h;cases ry;rcases hq with hq | hq
 ·obtain⟨its,r,pl,hz⟩:=I.list hq;refine SeqAt.in_listAt (HF x) pl.isList (fun w hw=>nH rx fx r fs w (by simpa using hw)) ⟨.bl _,H,I,rfl,?_⟩
  rw[show its.toArray.any (HF x)=its.any (HF x) by simp,rN r fs]
  exact q
 ·obtain⟨its,r,pl,hz⟩:=I.tuple hq;refine SeqAt.in_tupleAt (HF x) pl (fun w hw=>nH rx fx r fs w (by simpa using hw)) ⟨.bl _,H,I,rfl,?_⟩
  rw[show its.toArray.any (HF x)=its.any (HF x) by simp,rN r fs]
  exact q
theorem Bv:mX X (compareOp .NotIn) (rIn X.K true):=by
 symm;intro x y v u Q I rx ry h;obtain⟨p,xs,rfl,hq,fx,fs,q⟩:=h;cases ry;rcases hq with hq | hq
 ·obtain⟨its,r,pl,hz⟩:=I.list hq;refine SeqAt.notIn_listAt (HF x) pl.isList (fun w hw=>nH rx fx r fs w (by simpa using hw)) ⟨.bl _,H,I,rfl,?_⟩
  rw[show its.toArray.any (HF x)=its.any (HF x) by simp,rN r fs]
  exact q
 ·obtain⟨its,r,pl,hz⟩:=I.tuple hq;refine SeqAt.notIn_tupleAt (HF x) pl (fun w hw=>nH rx fx r fs w (by simpa using hw)) ⟨.bl _,H,I,rfl,?_⟩
  rw[show its.toArray.any (HF x)=its.any (HF x) by simp,rN r fs]
  exact q
theorem CJ:cJ X (.builtin "len") (fun xs H Q=>∃p ys,xs=[.ref p]/\(cz X.K H p ys\/dU X.K H p ys)/\Q (.int ys.length) H):=by
 symm;intro xs us Q I r h;obtain⟨p,ys,rfl,hq,q⟩:=h;obtain⟨u,rfl,rx⟩:=vals1 r;cases rx;have hn:=p_;rcases hq with hq | hq
 ·obtain⟨its,r',pl,hz⟩:=I.list hq;have hlen:=r'.length;exact Calls.call_len_list pl.isList (by simp only[d_] <;> omega) ⟨.int ys.length,H,I.tok _,⟨s.toks+1,by rw[d_,hlen]⟩,q⟩
 ·obtain⟨its,r',pl,hz⟩:=I.tuple hq;have hlen:=r'.length;exact len_tuple pl (by simp only[d_] <;> omega) ⟨.int ys.length,H,I.tok _,⟨s.toks+1,by rw[d_,hlen]⟩,q⟩
theorem rF:cJ X (.builtin "len") (fun xs H Q=>∃z,xs=[.str z]/\z.length<=sizeLine/\Q (.int z.length) H):=by
 symm;intro xs us Q I r h;obtain⟨z,rfl,hz,q⟩:=h;obtain⟨u,rfl,t,rfl⟩:=vals1 r;have hn:=p_;exact len_str ∅ ⟨.int z.length,H,I.tok _,⟨_,rfl⟩,q⟩
theorem rE:cJ X (.type "list") (fun xs H Q=>∃p ys,xs=[.ref p]/\(cz X.K H p ys\/dU X.K H p ys)/\∀l,H l=none->Q (.ref l) (upd H l (.lst ys))):=by
 symm;intro xs us Q I r h;obtain⟨p,ys,rfl,hq,q⟩:=h;obtain⟨u,rfl,rx⟩:=vals1 r;cases rx;have fin:∀(its:List AA),Vals ys its->ys.length<=sizeLine->∀(h':Heap)(c':Nat),(∀b o',s.heap.get? b=some o'->h'.get? b=some o') ->
   h'.get? s.heap.objs.size=some { cls:=.type "list",dict:=none,data:=.seq its.toArray c',slots:=#[] }->EP X ae σ Q (.ref s.heap.objs.size) { s with heap:=h' }:=fun its r' hz h' c' kp e=>
  ⟨.ref s.heap.objs.size,_,I.laid (t':=s.toks) kp (bc _) (show bM X.prog X.w _ h' _ (.lst ys) from⟨hz,its,c',r',e⟩),rfl,q _ (I.hok.fresh (bc _))⟩
 rcases hq with hq | hq
 ·obtain⟨its,r',pl,hz⟩:=I.list hq;have hlen:=r'.length;obtain⟨o,ho,hc,n,hd⟩:=pl.isList;exact call_list_seq p (.inl rfl) ho hc hd (fun h' c' kp e=>fin its r' hz h' c' kp e) (by simp only[d_] <;> omega)
 ·obtain⟨its,r',pl,hz⟩:=I.tuple hq;have hlen:=r'.length;obtain⟨o,ho,hc,n,hd⟩:=pl;exact call_list_seq p (.inr rfl) ho hc hd (fun h' c' kp e=>fin its r' hz h' c' kp e) (by simp only[d_] <;> omega)
theorem yz:cJ X (.type "tuple") (fun xs H Q=>∃p ys,xs=[.ref p]/\((cz X.K H p ys/\∀l,H l=none->Q (.ref l) (upd H l (.tup ys)))\/(dU X.K H p ys/\Q (.ref p) H))):=by
 symm;intro xs us Q I r h;obtain⟨p,ys,rfl,h⟩:=h;obtain⟨u,rfl,rx⟩:=vals1 r;cases rx;rcases h with⟨hq,q⟩ | ⟨hq,q⟩
 ·obtain⟨its,r',pl,hz⟩:=I.list hq;have hlen:=r'.length;refine call_tuple_list pl.isList (fun h' kp=>?_) (by simp only[d_] <;> omega)
  have I1:Inv X ae σ H { s with heap:=h' }:=I.kept (t':=s.toks) kp
  have I2:Inv X ae σ (upd H h'.objs.size (.tup ys)) { s with heap:=h'.push { cls:=.type "tuple",data:=.seq its.toArray } }:=
   I1.laid (t':=s.toks) (fun b o e=>cU _ e) (bc _) (show bM X.prog X.w _ _ _ (.tup ys) from⟨hz,its,r',IsTup.new _ _⟩)
  exact⟨.ref h'.objs.size,_,I2,rfl,q _ (I1.hok.fresh (bc _))⟩
 ·obtain⟨its,r',pl,hz⟩:=I.tuple hq;exact call_tuple_same pl ⟨.ref p,H,I,rfl,q⟩
def tyV(K:Frag)(T:String)(x:V)(H:Hp):Prop:=match x with
 | .str _=>T = "str"
 | .int _=>T = "int"
 | .ref p=>(T = "list" /\ ∃xs,cz K H p xs)\/(T = "tuple" /\ ∃o,K.lookup p=some o/\o.cls=.type "tuple" /\ o.dict=none) \/
   (T = "dict" /\ ((∃kvs,H p=some (.dK kvs))\/∃kvs,H p=some (.dT kvs)))\/(T = "set" /\ ∃S n,H p=some (.set S n))
 | _=>False
theorem N7{ae:List (Addr×Obj)}{σ:St}{H:Hp}{s:AB}{T:String}{x:V}{v:AA}(I:Inv X ae σ H s)(r:RelV x v)(ty:tyV X.K T x H) :
  s.TypeIs v T/\∀a,v=.ref a->∃ob,s.heap.get? a=some ob/\ob.dict=none:=by
 cases x with
 | str z=>
  obtain⟨t,rfl⟩:=r;cases(show T = "str" from ty);exact⟨typeIs_str s z t,fun _ e=>nomatch e⟩
 | int i=>
  obtain⟨t,rfl⟩:=r;cases(show T = "int" from ty);exact⟨typeIs_int s i t,fun _ e=>nomatch e⟩
 | ref p=>
  cases r;rcases ty with⟨rfl,xs,hq⟩ | ⟨rfl,o,hk,hc,hd⟩ | ⟨rfl,hk⟩ | ⟨rfl,S,n,hk⟩
  ·obtain⟨its,_,pl,_⟩:=I.list hq;refine⟨pl.isList.typeIs,fun a e=>?_⟩;cases e;obtain⟨o,n,e,c,hd,_⟩:=pl;exact⟨o,e,hd⟩
  ·refine⟨⟨o,I.lg p o hk,hc⟩,fun a e=>?_⟩;cases e;exact⟨o,I.lg _ o hk,hd⟩
  ·have z:∃o,s.heap.get? p=some o/\o.ExactDict:=by
    rcases hk with⟨kvs,hk⟩ | ⟨kvs,hk⟩
    ·obtain⟨_,_,_,_,o,_,_,e,ex,_⟩:=I.hok p _ hk;exact⟨o,e,ex⟩
    ·obtain⟨_,_,_,_,o,_,_,e,ex,_⟩:=I.hok p _ hk;exact⟨o,e,ex⟩
   obtain⟨o,e,ex⟩:=z;refine⟨⟨o,e,ex.1⟩,fun a e2=>?_⟩;cases e2;exact⟨o,e,ex.2.1⟩
  ·obtain⟨o,_,_,_,e,ex,_⟩:=I.hok p _ hk;refine⟨⟨o,e,ex.1⟩,fun a e2=>?_⟩;cases e2;exact⟨o,e,ex.2.1⟩
 | _=>exact False.elim ty
def acN(K:Frag)(T:String)(r:V->List V->Hp->VK->Prop)(to:TE):TE:=fun σ H Q=>to σ H fun x H1=>tyV K T x H1/\r x [] H1 Q
def tBM(K:Frag)(T:String)(r:V->List V->Hp->VK->Prop)(to:TE)(t:TA):TE:=fun σ H Q=>to σ H fun x H1=>tyV K T x H1/\t σ H1 fun xs H2=>r x xs H2 Q
variable{o e:Expr}{es:List Expr}{to:TE}{t:TA}{name:Str}{apos cpos:Pos}{T id:String}{r:V->List V->Hp->VK->Prop}
theorem aay(pa:PlainAttrs T)(slot:Slot T name id)(hty:typeOf (.builtin id)=pure (.type "method_descriptor"))(hm:MtR X id r)(ho:PE X o to)(ha:PA X (e::es) t)
  (hbase: ~~~(attributeBase o name X.env (eval o X.env)=eval o X.env))
  (hfew: ~~~(((backTo cpos (starEach (e::es) X.env)).all (fun x=>!x.1)&&(backToKw cpos (keywordEach [] X.env)).all (fun x=>x.1.isSome)
   && decide ((e::es).length+([]:List Keyword).length+(if([]:List Keyword).isEmpty then 0 else 1)<30))=true))
  (hline: ~~~((apos.endLine==cpos.line)=true)) (hs: ~~~(starEach (e::es) X.env=(false,eval e X.env)::starEach es X.env)) (hplain: ~~~((backTo cpos (starEach es X.env)).any (·.1)=false)) :
  PE X (.Call (.Attribute o name apos) (e::es) [] cpos) (tBM X.K T r to t):=by
 symm;intro Q I h;refine wpAny_Call_method_late hbase hfew hline rfl (cA (ho ae s σ H _ I h) fun v s1 qx=>?_);obtain⟨x,H1,I1,r1,ty,q1⟩:=qx;obtain⟨h1,h2⟩:=N7 I1 r1 ty;refine⟨T,id,pa,slot,hty,h1,h2,?_⟩;have hA:=ha cpos ae s1 σ H1 _ I1 q1;rw[hs] at hA ⊢;refine Calls.callWith_builtin (by show(false || (backTo cpos (starEach es X.env)).any (·.1))=false; rw[hplain] <;> rfl) (Calls.evalArgs_plain ?_)
 exact cA hA fun us s2 ⟨vs,H2,I2,r2,q2⟩=>hm ae s2 σ H2 x vs v us Q I2 r1 r2 q2
end
def MtM(X:Cx)(id:String)(r:V->List V->Hp->VK->Prop):Prop:=
 ∀(ae:List (Addr×Obj))(s:AB)(σ:St)(H:Hp)(x:V)(xs:List V)(v:AA)(us:List AA)(Q:VK),Inv X ae σ H s->RelV x v->Vals xs us->r x xs H Q ->
  wpAny (model X.prog X.w) X.A (call (.builtin id) (v::us)) (EP X ae σ Q) X.xe s
theorem Vals.un{x:V}{xs:List V}{us:List AA}(h:Vals (x::xs) us):∃u r,us=u::r/\RelV x u/\Vals xs r:=by
 cases h with
 | cons r t=>exact⟨_,_,rfl,r,t⟩
theorem Vals.no{us:List AA}(h:Vals [] us):us=[]:=by
 cases h;rfl
theorem Vals.one{x:V}{us:List AA}(h:Vals [x] us):∃u,us=[u]/\RelV x u:=by
 obtain⟨u,r,rfl,h1,h⟩:=h.un;cases h.no;exact⟨u,rfl,h1⟩
theorem Vals.two{x y:V}{us:List AA}(h:Vals [x,y] us):∃u v,us=[u,v]/\RelV x u/\RelV y v:=by
 obtain⟨u,r,rfl,h1,h⟩:=h.un;obtain⟨v,rfl,h2⟩:=h.one;exact⟨u,v,rfl,h1,h2⟩
theorem Vals.rep{xs:List V}{us:List AA}(h:Vals xs us):∀k:Nat,Vals (List.replicate k xs).flatten (List.replicate k us).flatten
 | 0=>.nil
 | k+1=>by
  rw[Ld,Ld,Jo,Jo];exact Vals.append h (Vals.rep h k)
theorem foldl_rep(its:List AA):∀(k:Nat)(acc:List AA),
  List.foldl (fun x1 x2=>x1++x2) acc.toArray (List.replicate k its.toArray)=(acc++(List.replicate k its).flatten).toArray
 | 0,acc=>by simp
 | k+1,acc=>by
  have e:acc.toArray++its.toArray=(acc++its).toArray:=by simp
  have e2:(acc++its)++(List.replicate k its).flatten=acc++(List.replicate (k+1) its).flatten:=by
   rw[Ld,Jo,G5]
  rw[<- e2,<- foldl_rep its k (acc++its),<- e,Ld,List.foldl_cons]
section
variable{X:Cx}{ae:List (Addr×Obj)}{σ:St}{H:Hp}{s:AB}{l b:Addr}{xs ys zs:List V}
theorem Inv.aaT{its its':List AA}{n:Nat}{f:Array AA->Array AA}{t':Nat}(I:Inv X ae σ H s)(hH:H l=some (.lst xs))
  (e:s.heap.get? l=some { cls:=.type "list",data:=.seq its.toArray n }) (hf:f its.toArray=its'.toArray) (hv:Vals ys its') (hz:ys.length<=sizeLine) :
  Inv X ae σ (upd H l (.lst ys)) { s with heap:=s.heap.update l (Obj.mapSeq f),toks:=t' }:=by
 have q:=PySem.IsL.update e f;rw[hf] at q;refine I.write (x:=l) (e:=l) (by rw[hH]; exact trivial) (.inl rfl) (fun b' u hb hu=>(kZ s.heap (Obj.mapSeq f) (Ne.symm hb)).trans hu) ⟨_,q⟩ ?_
 exact⟨hz,its',_,hv,q⟩
theorem Inv.Xw{its:List AA}{t':Nat}(I:Inv X ae σ H s)(hv:Vals ys its)(hz:ys.length<=sizeLine) :
  Inv X ae σ (upd H s.heap.objs.size (.lst ys)) { s with heap:=s.heap.push { cls:=.type "list",data:=.seq its.toArray },toks:=t' }:=
 I.laid (fun _ _ q=>cU _ q) (bc _) ⟨hz,its,0,hv,cI _ rfl⟩
theorem Inv.fresh(I:Inv X ae σ H s):H s.heap.objs.size=none:=I.hok.fresh (bc _)
theorem Inv.Qm(I:Inv X ae σ H s)(hH:H l=some (.lst xs)):xs.length<=sizeLine/\∃(its:List AA)(n:Nat),Vals xs its/\xs.length=its.length/\s.heap.get? l=some { cls:=.type "list",data:=.seq its.toArray n }:=by
 obtain⟨z,its,n,r,e⟩:=I.hok l _ hH;exact⟨z,its,n,r,r.length,e⟩
theorem Qg{n:Nat}(h:n<=sizeLine):Builtin.List.listTooLong n=false:=by
 unfold Builtin.List.listTooLong;exact j4 ∅
end
section
variable{X:Cx}
def SM:V->List V->Hp->VK->Prop:=fun x vs H Q=>∃l xs y,x=.ref l/\vs=[y]/\H l=some (.lst xs)/\xs.length<sizeLine/\Q .non (upd H l (.lst (xs++[y])))
theorem fX:MtM X "list.append" SM:=by
 intro ae s σ H x vs v us Q I rx rv h;obtain⟨l,xs,y,rfl,rfl,hH,hz,q⟩:=h;cases rx;obtain⟨u,rfl,ru⟩:=rv.one;obtain⟨z,its,n,r,hl,e⟩:=I.Qm hH;refine call_meets F.slot_list_append ⟨_,e,rfl⟩ F.entry_list_append (F.args_list_append_2 _ _) (PySem.list_append l its.toArray n u (by rw[d_]; omega)) ⟨e,?_⟩
 refine⟨.non,_,I.aaT (its':=its++[u]) hH e (by simp) (r.append (.cons ru .nil)) ?_,rfl,q⟩
 rw[cF,List.length_singleton];omega
def La:R2:=fun x y H Q=>∃l b xs zs,x=.ref l/\y=.ref b/\H l=some (.lst xs)/\H b=some (.lst zs)/\xs.length+zs.length<=sizeLine/\∀p,H p=none->Q (.ref p) (upd H p (.lst (xs++zs)))
theorem Hb:mX X (binaryOp .Add) La:=by
 symm;intro x y v u Q I rx ry h;obtain⟨l,b,xs,zs,rfl,rfl,hH,hB,hz,q⟩:=h;cases rx;cases ry;obtain⟨z,its,n,r,hl,e⟩:=I.Qm hH;obtain⟨z2,its2,n2,r2,hl2,e2⟩:=I.Qm hB;refine PySem.P.add_list e e2 ?_ (by rw[d_,d_]; omega)
 have ea:its.toArray++its2.toArray=(its++its2).toArray:=by simp
 rw[ea];exact⟨.ref _,_,I.Xw (t':=s.toks) (r.append r2) (by rw[cF]; omega),rfl,q _ I.fresh⟩
def ac1:R2:=fun x y H Q=>∃l k xs,x=.ref l/\y=.int k/\H l=some (.lst xs)/\-(2 ^ 63)<=k/\k<2 ^ 63/\xs.length*k.toNat<=sizeLine /\
 ∀p,H p=none->Q (.ref p) (upd H p (.lst (List.replicate k.toNat xs).flatten))
theorem len_rep{α:Type}(xs:List α)(k:Nat):(List.replicate k xs).flatten.length=k*xs.length:=by
 induction k with
 | zero=>simp
 | succ k ih=>rw[Ld,Jo,cF,ih,Nat.succ_mul,Nat.add_comm]
theorem PQ:mX X (binaryOp .Mult) ac1:=by
 symm;intro x y v u Q I rx ry h;obtain⟨l,k,xs,rfl,rfl,hH,h1,h2,hz,q⟩:=h;cases rx;obtain⟨t,rfl⟩:=ry;obtain⟨z,its,n,r,hl,e⟩:=I.Qm hH;have hlen:its.toArray.size*k.toNat<=sizeLine:=by rw[d_,<- hl]; exact hz
 have adK:¬its.toArray.size*k.toNat>(2 ^ 63-1) / 8:=by
  have:(sizeLine:Nat)<=(2 ^ 63-1) / 8:=by decide
  omega
 have hfit:¬(!Builtin.List.listFitsIndex k)=true:=by
  rw[fitsIndex_both h1 h2];exact iK
 have aa0:¬Builtin.List.listTooLong (its.toArray.size*k.toNat)=true:=by
  rw[Qg hlen];exact iK
 have hnew:List.foldl (fun x1 x2=>x1++x2) #[] (List.replicate (if its.toArray.isEmpty=true then 0 else k.toNat) its.toArray)=(List.replicate k.toNat its).flatten.toArray:=by
  have f0:∀m:Nat,List.foldl (fun x1 x2=>x1++x2) #[] (List.replicate m its.toArray)=(List.replicate m its).flatten.toArray:=fun m=>by
   have:=foldl_rep its m [];rw[Bf] at this;exact this
  rw[f0];cases its with
  | nil=>simp
  | cons a r'=>rw[aN (by simp)]
 refine wpAny_binaryOp_repeat_ref (T:="list") (U:="int") ⋯ ⟨_,e,rfl⟩ (fun s'=>typeIs_int s' k t) noFill_list_mul F.fills_int_mul F.slot_int_rmul repeat_list F.slot_int_index.lookup
  (call_meets F.slot_int_rmul (typeIs_int s k t) F.entry_int_rmul (F.args_int_rmul_2 _ _) (int___rmul___int_list k t l its.toArray n)
   ⟨e,rfl,⟨_,e,rfl⟩,call_meets F.slot_list_mul ⟨_,e,rfl⟩ F.entry_list_mul (F.args_list_mul_2 _ _) (AutoListH.list___mul___list_int_3 l its.toArray n k t hfit adK aa0) ⟨e,?_⟩⟩)
 rw[hnew];exact⟨.ref _,_,I.Xw (t':=s.toks) (r.rep k.toNat) (by rw[len_rep,Nat.mul_comm]; exact hz),rfl,q _ I.fresh⟩
end
section
variable{prog:AC}{w:World}{A:Around}{E:AA->AB->Prop}{s:AB}
end
section
variable{X:Cx}
end
end _L
namespace Att
open PySem PySem.W PySem.Calls PyProof.Rows
theorem uL{P:Params}{h:Heap}:∀(ns:List Int)(vs:List AA),WellAll P h vs (ns.map WData.int)->IntsAre vs ns:=by
 intro ns
 induction ns with
 | nil=>
  intro vs w;rw[List.map_nil] at w;cases w;exact .nil
 | cons n ns ih=>
  intro vs w;rw[jk] at w;cases w with
  | cons a b=>
   cases a;exact .cons _ _ (ih _ b)
theorem KZ{l:OpenLaw}{n:Nat}(hn:l.most=some n){P:Params}{h:Heap}{args:List WData}{vals:List AA}
  (hpre:l.row.toRowW.claim.pre args=true) (hwl:WellAll P h vals args) :
  ∃a vs ns,vals=[Value.ref a]/\args=[WData.list (ns.map WData.int)]/\h.get? a=some { cls:=.type "list",data:=.seq vs.toArray }/\IntsAre vs ns/\ns.length<=n:=by
 have hsh:WShape.hasAll [] args [.list .int]=true:=(pre_splitW hpre).1;have hc:l.pre.holds [] { args:=args }=true:=(pre_splitW hpre).2;obtain⟨d,r,rfl,h1,h2⟩:=hasAllW_cons hsh;obtain rfl:=hasAllW_nil h2;obtain⟨xs,rfl,h3⟩:=hasW_list h1;obtain⟨ns,rfl⟩:=items_int h3
 have hlen:ns.length<=n:=by
  unfold OpenLaw.pre at hc
  have h4:(WTm.not (.lt (.lit (.int (n:Int))) (.len (.arg 0)))).holds [] { args:=[.list (ns.map .int)] }=true:=by
   have h4:=(holds_andW hc).1;rw[hn] at h4;exact h4
  have h5:=condW_of h4 (w_not (w_lt w_lit (w_len_list (w_arg rfl))));rw[bZ] at h5;refine Nat.le_of_not_lt fun q=>?_;have q':(n:Int)<((ns.length:Nat):Int):=by omega
  first
   | (rw[mU q'] at h5; exact absurd h5 ⋯)
   | (simp at h5; omega)
 cases hwl with
 | cons w1 w2=>
  cases w2;cases w1 with
  | list ho hall=>exact⟨_,_,ns,rfl,rfl,ho,uL ns _ hall,hlen⟩
theorem Lh(l:OpenLaw)(args:List WData):l.row.toRowW.claim.post args (.bool true) args=true:=
 postW_of (r:=l.row.toRowW) (X:=(true==true))
  (show WShape.has [] (.bool true) .bool=true by first | rfl | decide | simp[WShape.has,WShape.arms,WShape.armsAll])
  (show(WTm.eq .res (.lit (.bool true))).value [] { args:=args,res:=some (.bool true),after:=args }=some (.bool (true==true)) from w_eq_bool (w_res rfl) w_lit) rfl
theorem Gb{l:OpenLaw}{n:Nat}{q:AC}{loose:List Str}{XP:(Str->Option AA)->Heap->Prop}{YP:World->Heap->Prop}{d:DefRec}
  (hn:l.most=some n) (hdf:d.params.defaults=[])
  (call:∀(w:World)(s₀ s₁:AB)(mg mb:Str->Option AA)(fa:Addr)(o:Obj)(pm cd doc:AA)(a:Addr)(vs:List AA)(ns:List Int),
   Ground q loose [] XP w s₀ mg mb s₁.heap->YP w s₁.heap ->
   s₁.heap.get? fa=some o->o.data=.func (docDef d.name d.params d.body d.scope pm cd doc)->s₁.heap.CodeRec cd d.name->mg d.name=some (.ref fa) ->
   s₁.heap.get? a=some { cls:=.type "list",data:=.seq vs.toArray }->IntsAre vs ns->ns.length<=n->s₁.gens = #[] ->
   codeAny (model l.prog w) callerA (.call (.ref fa) ⟨[.ref a],[]⟩) (fun r s'=>r=.ok (.ret (.bool true))/\OldK s₁.heap s'.heap/\s'.os=s₁.os/\AllBare s'.gens) s₁) :
  WalkO q loose XP YP l.row.toRowW d [] (fun f vs=>PySem.call f vs):=by
 intro w s₀ s₁ mg mb G Y fa o pm cd doc dV kV ho hd hcd hD hmg hg args vals as hpre hlay hrd hwl hlo;obtain rfl:dV=.none:=Dflts.none hD hdf;obtain rfl:kV=.none:=Dflts.noKw hD;obtain⟨a,vs,ns,rfl,rfl,hobj,hints,hlen⟩:=KZ hn hpre hwl;refine enter_call (codeAny_mono (call w s₀ s₁ mg mb fa o pm cd doc a vs ns G Y ho (fd_plain hd) hcd hmg hobj hints hlen hg) fun r s' hq=>?_);obtain⟨rfl,h2,h3,h4⟩:=hq;exact⟨.inl ⟨.bool true,.bool true,[],rfl,fun _=>rfl,.bool true,Lh l _,fun _=>⟨List.Pairwise.nil,fun _ hm=>(nomatch hm)⟩⟩,h2,h3,h4⟩
section
variable{prog:AC}{w:World}{A:Around}{E:AA->AB->Prop}{s:AB}{K:Frag}
def ledger(h:Heap)(L d:Addr):List (Addr×Obj):=(List.range h.objs.size).filterMap fun a=>if a=L\/a=d then none else(h.get? a).map fun o=>(a,o)
end
end Att
namespace _L
open PySem PySem.Spec PyProof.Rows
theorem yP:∀{vs:List AA}{ns:List Int},IntsAre vs ns->Vals (ns.map V.int) vs
 | _,_,.nil=>.nil
 | _,_,.cons n t h=>.cons ⟨t,rfl⟩ (yP h)
def Only(H:Hp):Prop:=∀b,H b=none\/∃o xs,H b=some (.kE o (.lst xs))
theorem Qo{P:AC}{w:World}{K:Frag}{mg mb:Str->Option AA}{CX:Kq}{k:Nat}{fa a:Addr}{fd:FuncData}{x:Str}{sp:Sp}{s₁:AB}{vs:List AA}{ns:List Int}
  (KX:K.In s₁.heap) (hns:s₁.heap.Ns mainGlobals mg) (hb:s₁.heap.Ns builtinsNs mb) (hbb:∀x:Str,x ≠ "__name__" -> mb x=bootBuiltins x) (hlim:s₁.heap.NoLimit) (hg:s₁.gens = #[])
  (ha:s₁.heap.get? a=some { cls:=.type "list",data:=.seq vs.toArray }) (hi:IntsAre vs ns) (hl:ns.length<=sizeLine) (hr:dR k callerA)
  (F:∀base:Heap,K.In base->base.Ns mainGlobals mg->bH P w K mg base CX k fa fd [x] sp) (hbind:∀(s:AB)(u:AA),BindsTo s fd ⟨[u],[]⟩ [(x,u)])
  (hsp:∀H:Hp,Only H->cz K H a (ns.map V.int)->sp [.ref a] H (fun v _=>v=.bl true) fun _ _ _=>False)
  (hCX:∀H e s',CX [] H s₁ (fun _ _ _=>False) e s'->False) :
  codeAny (model P w) callerA (.call (.ref fa) ⟨[.ref a],[]⟩) (fun r s'=>r=.ok (.ret (.bool true))/\OldK s₁.heap s'.heap/\s'.os=s₁.os/\AllBare s'.gens) s₁:=by
 have rv:=yP hi;have lenV:=hi.length;have core:∀H:Hp,Only H->cz K H a (ns.map V.int)->jT P w H s₁.heap->(∀b,H b≠none->b=a)->(H a≠none->K.lookup a=none) ->
   codeAny (model P w) callerA (.call (.ref fa) ⟨[.ref a],[]⟩) (fun r s'=>r=.ok (.ret (.bool true))/\OldK s₁.heap s'.heap/\s'.os=s₁.os/\AllBare s'.gens) s₁:=by
  intro H hO hS hok hA hK;have Km:∀{b:Addr}{o:Obj},s₁.heap.get? b=some o->H b=none->(Ci s₁.heap H).get? b=some o:=fun e n=>QD e n
  have noA:∀{b:Addr}{o:Obj}{es:Array DictEntry}{ep:Nat},s₁.heap.get? b=some o->o.data=.dict es ep->H b=none:=fun {b o es ep} e d=>by
   cases q:H b with
   | none=>rfl
   | some u=>
    have e':b=a:=hA b (by rw[q]; simp)
    subst e';rw[ha] at e; cases e;have d':Data.seq vs.toArray _=Data.dict es ep:=d;cases d'
  have nsK:∀{b:Addr}{m:Str->Option AA},s₁.heap.Ns b m->(Ci s₁.heap H).Ns b m:=fun {b m} ⟨o,es,ep,e,d,r⟩=>⟨o,es,ep,Km e (noA e d),d,r⟩
  have hKb:K.In (Ci s₁.heap H):=fun b o e=>Km (KX b o e) (by
   cases q:H b with
   | none=>rfl
   | some u=>
    have e':b=a:=hA b (by rw[q]; simp)
    subst e'
    rw[hK (by rw[q]; simp)] at e; cases e)
  have hM:Mod K mg (Ci s₁.heap H):=⟨hKb,nsK hns,⟨mb,nsK hb,hbb⟩,let ⟨mc,h1,h2⟩:=hlim; ⟨mc,nsK h1,h2⟩⟩;have e0:Io P w K mg (Ci s₁.heap H) callerA [] s₁ H:=⟨rfl,hM,fun b o e=>T4 e,Nat.le_of_eq (Mi _ _),trivial,fun b hb=>absurd (show b∈([]:List Addr) from hb) (by simp),hok,.of_eq hg⟩
  refine codeAny_mono ((F _ hKb (nsK hns)).run callerA [] s₁ H ⟨[.ref a],[]⟩ [.ref a] [.ref a] _ _ hr e0 (hbind s₁ (.ref a)) (.cons rfl .nil) (hsp H hO hS)) fun r s' h=>?_;cases r with
  | error e=>exact(hCX H e s' h).elim
  | ok fl=>
   cases fl with
   | next=>exact False.elim h
   | brk=>exact False.elim h
   | cont=>exact False.elim h
   | ret u=>
    obtain⟨v,H',os,bare,un,hok',r',q⟩:=h;have q':v=.bl true:=q;subst q';obtain rfl:u=Value.bool true:=r';refine⟨rfl,OldK.of_keep fun b o e=>?_,os,bare⟩;cases q:H b with
    | none=>exact un.keep b o e q (by intro z; exact absurd (show b∈([]:List Addr) from z) (by simp)) (by simp)
    | some u=>
     rcases hO b with z | ⟨ob,xs,z⟩
     ·rw[q] at z; cases z
     ·have z2:=un.uM b ob _ z;obtain⟨e1,_⟩:=hok b _ z;obtain⟨e2,_⟩:=hok' b _ z2;rw[e] at e1; cases e1;exact e2
 cases hk:K.lookup a with
 | some o=>
  have e:=KX a o hk;rw[ha] at e;cases e;refine core (fun _=>none) (fun _=>.inl rfl) (.inr ⟨_,vs.toArray,_,hk,rfl,rfl,rfl,by rw[d_,lenV]; exact hl,by simpa using rv⟩) (fun b u z=>by have z':(none:Option HO)=some u:=z; cases z') (fun b z=>absurd rfl z) fun z=>absurd rfl z
 | none=>
  refine core (fun b=>if b=a then some (.kE { cls:=.type "list",data:=.seq vs.toArray } (.lst (ns.map V.int))) else none) (fun b=>?_) (.inl (.inr ⟨{ cls:=.type "list",data:=.seq vs.toArray },aV rfl⟩)) (fun b u z=>?_) (fun b z=>?_) fun _=>hk
  ·by_cases hb:b=a
   ·exact .inr ⟨_,_,aV hb⟩
   ·exact .inl (aN hb)
  ·by_cases hb:b=a
   ·have z':=(aV hb).symm.trans z;cases z';subst hb;exact⟨ha,by rw[bZ]; exact hl,vs,_,rv,ha⟩
   ·have z':=(aN hb).symm.trans z;cases z'
  ·by_cases hb:b=a
   ·exact hb
   ·exact absurd (aN hb) z
abbrev KOf{K:Frag}{h:Heap}(_:K.In h):Frag:=K
theorem RW{l:PySem.W.OpenLaw}{n k:Nat}{q:AC}{loose:List Str}{XP:(Str->Option AA)->Heap->Prop}{YP:World->Heap->Prop}{d:DefRec}{K:Params->Frag}{CX:World->Kq}{sp:World->Sp}{x:Str}
  (hn:l.most=some n) (hn2:n<=sizeLine) (hdf:d.params.defaults=[]) (hr:dR k callerA)
  (hY:∀(w:World)(h:Heap),YP w h->(K w.params).In h)
  (F:∀(w:World)(mg:Str->Option AA)(fa:Addr)(h:Heap),(K w.params).In h->h.Ns mainGlobals mg->mg d.name=some (.ref fa) ->
   ∃fd:FuncData,(∀(s:AB)(u:AA),BindsTo s fd ⟨[u],[]⟩ [(x,u)]) /\
    ∀base:Heap,(K w.params).In base->base.Ns mainGlobals mg->bH l.prog w (K w.params) mg base (CX w) k fa fd [x] (sp w))
  (hsp:∀(w:World)(H:Hp)(a:Addr)(ns:List Int),ns.length<=n->Only H->cz (K w.params) H a (ns.map V.int)->sp w [.ref a] H (fun v _=>v=.bl true) fun _ _ _=>False)
  (hCX:∀(w:World)(H:Hp)(s:AB)(e:AA)(s':AB),CX w [] H s (fun _ _ _=>False) e s'->False) :
  PySem.W.WalkO q loose XP YP l.row.toRowW d [] (fun f vs=>PySem.call f vs):=by
 refine Att.Gb hn hdf fun w s₀ s₁ mg mb fa o pm cd doc a vs ns G Y ho hd hcd hmg hobj hints hlen hg=>?_;have KX:=hY w _ Y;obtain⟨fd,hb,hF⟩:=F w mg fa _ KX G.T.g hmg;exact Qo KX G.T.g G.T.b G.T.builtins G.T.nolimit hg hobj hints (jJ hlen hn2) hr hF hb (fun H hO hS=>hsp w H a ns hlen hO hS) fun H e s'=>hCX w H s₁ e s'
end _L
namespace _L
open PySem PySem.Spec PyProof.Rows
def inClass(s:Stmt)(j:Nat):Stmt:=match s with
 | .ClassDef _ _ _ body _ _ _ _ _ _ _=>body.getD j (.Pass ⟨0,0,0,0⟩)
 | _=>.Pass ⟨0,0,0,0⟩
def b_(s:Stmt):Arguments:=match s with
 | .FunctionDef _ a _ _ _ _ _ _ _ _=>a
 | _=>{ posonlyargs:=[],args:=[],vararg:=none,kwonlyargs:=[],kw_defaults:=[],kwarg:=none,defaults:=[] }
def bT(s:Stmt):List Stmt:=match s with
 | .FunctionDef _ _ b _ _ _ _ _ _ _=>b
 | _=>[]
def aG(s:Stmt):Scope:=match s with
 | .FunctionDef _ _ _ _ _ _ sc _ _ _=>sc
 | _=>{ kind:=.function,names:=[],isGenerator:=false,isCoroutine:=false }
abbrev ig:Kq:=fun _ _ _ _ _ _=>False
abbrev E0:XK:=fun _ _ _=>False
theorem zO{X:Cx}:Passes ig X E0:=fun _ _ _ _ _ _ _ h=>h.elim
structure i_(K:Frag)(x qual:Str)(st:Stmt)(f:Addr)(fd:FuncData):Prop where
 ex:∃(oc:AA)(od:Option Addr)(kV doc pm:AA)(an:Option Addr)(cdv ct:AA)(osl:Array (Option AA)),
  fd=fnOf x qual (b_ st) (bT st) (aG st) .none kV doc pm an cdv ct/\K.lookup f=some ⟨oc,od,.func fd,osl⟩/\codeIn K cdv qual=true
 kp:keepIn K (.ref f)=true
section
variable{P:AC}{w:World}{K:Frag}{mg:Str->Option AA}{base:Heap}
theorem i_.ok{x qual:Str}{st:Stmt}{f:Addr}{fd:FuncData}{N ps:List Str}{k:Nat}{sp:Sp}(F:i_ K x qual st f fd)(S:aX N ps (aG st))(len: autoParam (∀vs H Q E,sp vs H Q E->vs.length=ps.length) zg._auto_1)
  (hbody:∀(cdv:AA)(A:Around)(outer:List Env)(s:AB)(H:Hp)(vs:List V)(Q:VK)(E:XK),dR k (A.deeper (envOfC qual (aG st) s.heap.objs.size f cdv))->sp vs H Q E ->
   ∃t,Aj (gq ig P w K mg base N qual (aG st) f cdv A outer s H E).YK (bT st) t/\t { nx:=fun _ H'=>Q .non H',rt:=Q } (start N vs) H):bH P w K mg base ig (k+1) f fd ps sp:=by
 obtain⟨oc,od,kV,doc,pm,an,cdv,ct,osl,rfl,lk,hcd⟩:=F.ex;refine V1 lk hcd S len fun A outer s H vs Q E hr hsp=>?_;obtain⟨t,h,q⟩:=hbody cdv A outer s H vs Q E hr hsp;exact⟨t,h.YK,q⟩
theorem i_.binds{x qual:Str}{st:Stmt}{f:Addr}{fd:FuncData}{ps:List Str}(F:i_ K x qual st f fd)
  (h:∀(kV doc pm:AA)(an:Option Addr)(cdv ct:AA)(us:List AA),us.length=ps.length->bindArgs (fnOf x qual (b_ st) (bT st) (aG st) .none kV doc pm an cdv ct) ⟨us,[]⟩=pure (ps.zip us)):Binds K fd ps []:=by
 obtain⟨oc,od,kV,doc,pm,an,cdv,ct,osl,rfl,lk,hcd⟩:=F.ex;exact .all (h kV doc pm an cdv ct)
theorem Hy{x qual:Str}{st:Stmt}{f:Addr}{oc:AA}{od an:Option Addr}{osl:Array (Option AA)}{kV doc pm cdv ct:AA}(l:K.lookup f=some ⟨oc,od,.func (fnOf x qual (b_ st) (bT st) (aG st) .none kV doc pm an cdv ct),osl⟩)
  (c:codeIn K cdv qual=true) (k:keepIn K (.ref f)=true):i_ K x qual st f (fnOf x qual (b_ st) (bT st) (aG st) .none kV doc pm an cdv ct):=⟨⟨oc,od,kV,doc,pm,an,cdv,ct,osl,rfl,l,c⟩,k⟩
end
theorem aR{n:Nat}(h:n<=1000):n<sizeLine:=Jq h ⋯
section
variable{X:Cx}
theorem pv(i:Nat){x:Str}{pos:Pos}(hN: ~~~(X.N[i]?=some x))(hv:Vis X.env.scope x:=by walk_at "v")(hd:((x==("__debug__" : Str))=false)⁻¹)
  (hcd:((x==("__classdict__" : Str))=false)⁻¹):PE X (.Name x pos) (mR i):=Xb hN hv hd hcd
end
theorem aaX{c A B:Prop}[Decidable c](h1:c->A)(h2:¬c->B):if c then A else B:=by
 by_cases h:c
 ·rw[aV h];exact h1 h
 ·rw[aN h];exact h2 h
def aJ(H H':Hp):Prop:=∀b o,H b=some o->H' b=some o
theorem aJ.refl(H:Hp):aJ H H:=fun _ _ h=>h
theorem aJ.trans{H H1 H2:Hp}(a:aJ H H1)(b:aJ H1 H2):aJ H H2:=fun c o h=>b c o (a c o h)
section
variable{κ:Type}[DecidableEq κ]
def gM(kvs:List (κ×V))(k:κ):Option V:=(kvs.find? fun kv=>decide (kv.1=k)).map (·.2)
def putK(kvs:List (κ×V))(k:κ)(v:V):List (κ×V):=
 if(kvs.any fun kv=>decide (kv.1=k))=true then kvs.map (fun kv=>if kv.1=k then(kv.1,v) else kv) else kvs++[(k,v)]
theorem NK{k:κ}:gM ([]:List (κ×V)) k=none:=rfl
theorem dI{p:κ×V}{r:List (κ×V)}{k:κ}(e:p.1=k):gM (p::r) k=some p.2:=by simp[gM,zu,e]
theorem eF{p:κ×V}{r:List (κ×V)}{k:κ}(e:¬p.1=k):gM (p::r) k=gM r k:=by simp[gM,zu,e]
theorem qD(k:κ):∀kvs:List (κ×V),(kvs.any fun kv=>decide (kv.1=k))=(gM kvs k).isSome
 | []=>rfl
 | p::r=>by
  rw[wB];by_cases e:p.1=k
  ·simp only[dI e,mU e,Bool.true_or,Option.isSome_some]
  ·rw[eF e,j4 e,Bool.false_or]; exact qD k r
theorem Dq(k j:κ)(y:V):∀kvs:List (κ×V),gM (kvs.map fun kv=>if kv.1=k then(kv.1,y) else kv) j=(gM kvs j).map fun x=>if j=k then y else x
 | []=>rfl
 | p::r=>by
  have ih:=Dq k j y r;rw[jk];by_cases h:p.1=k
  ·rw[aV h];by_cases e:p.1=j
   ·rw[dI (p:=(p.1,y)) e,dI e,zx,aV (e.symm.trans h)]
   ·rw[eF (p:=(p.1,y)) e,eF e,ih]
  ·rw[aN h];by_cases e:p.1=j
   ·rw[dI (p:=p) e,dI e,zx,aN (fun z=>h (e.trans z))]
   ·rw[eF (p:=p) e,eF e,ih]
theorem yQ(k j:κ)(y:V):∀kvs:List (κ×V),gM kvs k=none->gM (kvs++[(k,y)]) j=if j=k then some y else gM kvs j
 | [],_=>by
  by_cases e:k=j
  ·rw[aV e.symm]; exact dI (p:=(k,y)) e
  ·rw[aN (fun z=>e z.symm)]; exact eF (p:=(k,y)) e
 | p::r,hn=>by
  rw[List.cons_append];have hk:¬p.1=k:=fun z=>by rw[dI z] at hn; cases hn
  rw[eF hk] at hn;have ih:=yQ k j y r hn;by_cases e:p.1=j
  ·rw[dI e,dI e,aN (fun z=>hk (e.trans z))]
  ·rw[eF e,eF e,ih]
theorem Dp(kvs:List (κ×V))(k j:κ)(y:V):gM (putK kvs k y) j=if j=k then some y else gM kvs j:=by
 unfold putK;by_cases a:(kvs.any fun kv=>decide (kv.1=k))=true
 ·rw[aV a,Dq];rw[qD] at a;by_cases e:j=k
  ·obtain⟨x,hx⟩:=Lg.mp a;rw[aV e,e,hx,zx,aV rfl]
  ·rw[aN e];cases gM kvs j with
   | none=>rfl
   | some x=>rw[zx,aN e]
 ·rw[aN a];refine yQ k j y kvs ?_;rw[qD] at a;cases q:gM kvs k with
  | none=>rfl
  | some x=>rw[q] at a; exact(a rfl).elim
theorem fY(kvs:List (κ×V))(k:κ)(v:V):(putK kvs k v).length<=kvs.length+1:=by
 unfold putK;split
 ·rw[bZ]; omega
 ·rw[cF,fC,pW]; omega
theorem mW.Mg{o:Option V}{u:Option AA}(r:mW o u):o.isSome=u.isSome:=by
 cases o with
 | none=>cases u with
  | none=>rfl
  | some _=>exact(show False from r).elim
 | some _=>cases u with
  | none=>exact(show False from r).elim
  | some _=>rfl
theorem mW.getD{o:Option V}{u:Option AA}{d:V}{d':AA}(r:mW o u)(rd:RelV d d'):RelV (o.getD d) (u.getD d'):=by
 cases o with
 | none=>cases u with
  | none=>exact rd
  | some _=>exact(show False from r).elim
 | some _=>cases u with
  | none=>exact(show False from r).elim
  | some _=>exact r
theorem KV.val{kvs:List (κ×V)}{vs:List (κ×AA)}(r:KV kvs vs)(k:κ):mW (gM kvs k) (valueAt vs k):=by
 unfold KV at r
 induction r with
 | nil=>exact True.intro
 | @cons p q ps qs h t ih=>
  obtain⟨h1,h2⟩:=h;by_cases e:p.1=k
  ·have e':q.1=k:=h1.symm.trans e;have b:valueAt (q::qs) k=some q.2:=by simp[valueAt,zu,e']
   rw[dI e,b]; exact h2
  ·have e':¬q.1=k:=fun z=>e (h1.trans z);have b:valueAt (q::qs) k=valueAt qs k:=by simp[valueAt,zu,e']
   rw[eF e,b]; exact ih
theorem KV.any{kvs:List (κ×V)}{vs:List (κ×AA)}(r:KV kvs vs)(k:κ):(kvs.any fun kv=>decide (kv.1=k))=vs.any fun kv=>decide (kv.1=k):=by
 unfold KV at r
 induction r with
 | nil=>rfl
 | cons h t ih=>rw[wB,wB,ih,h.1]
theorem KV.repl{kvs:List (κ×V)}{vs:List (κ×AA)}(r:KV kvs vs)(k:κ){y:V}{u:AA}(ry:RelV y u) :
  KV (kvs.map fun kv=>if kv.1=k then(kv.1,y) else kv) (vs.map fun kv=>if kv.1=k then(kv.1,u) else kv):=by
 unfold KV at r ⊢
 induction r with
 | nil=>exact .nil
 | @cons p q ps qs h t ih=>
  rw[jk,jk];refine .cons ?_ ih;obtain⟨h1,h2⟩:=h;by_cases e:p.1=k
  ·rw[aV e,aV (h1.symm.trans e)]; exact⟨h1,ry⟩
  ·rw[aN e,aN (fun z=>e (h1.trans z))]; exact⟨h1,h2⟩
theorem KV.put{kvs:List (κ×V)}{vs:List (κ×AA)}(r:KV kvs vs)(k:κ){y:V}{u:AA}(ry:RelV y u):KV (putK kvs k y) (stored vs k u):=by
 unfold putK stored;rw[r.any k];by_cases e:(vs.any fun kv=>decide (kv.1=k))=true
 ·rw[aV e,aV e]; exact r.repl k ry
 ·rw[aN e,aN e]; exact Paired.snoc r ⟨rfl,ry⟩
theorem KV.length{kvs:List (κ×V)}{vs:List (κ×AA)}(r:KV kvs vs):kvs.length=vs.length:=Paired.length r
end
theorem wZ{P:AC}{w:World}{k:Key}{u:AA}(r:RelV (kV k) u):(cB P w).is k u=true:=by
 cases k with
 | inl i=>obtain⟨t,e⟩:=(show ∃t,u=Value.int i t from r); subst e; exact Fq P w i t
 | inr x=>obtain⟨t,e⟩:=(show ∃t,u=Value.str x t from r); subst e; exact Fp P w x t
theorem zV{P:AC}{w:World}:∀{ks:List Key}{us:List AA},Vals (ks.map kV) us->ItemsAre (cB P w) ks us
 | [],_,r=>by rw[List.map_nil] at r; cases r; exact .nil
 | k::ks,_,r=>by
  rw[jk] at r;cases r with
  | cons h t=>exact .cons (wZ h) (zV t)
abbrev KT(H:Hp):List (List Key×V)->List (List Key×Addr×AA)->Prop:=Paired fun p q=>p.1=q.1/\H q.2.1=some (.tup (p.1.map kV))/\RelV p.2 q.2.2
theorem KT.val{H:Hp}{kvs:List (List Key×V)}{xs:List (List Key×Addr×AA)}(r:KT H kvs xs)(k:List Key):mW (gM kvs k) ((atKey xs k).map (·.2)):=by
 induction r with
 | nil=>exact True.intro
 | @cons p q ps qs h t ih=>
  obtain⟨h1,_,h2⟩:=h;by_cases e:p.1=k
  ·have e':q.1=k:=h1.symm.trans e;have b:atKey (q::qs) k=some q.2:=by simp[atKey,zu,e']
   rw[dI e,b]; exact h2
  ·have e':¬q.1=k:=fun z=>e (h1.trans z);have b:atKey (q::qs) k=atKey qs k:=by simp[atKey,zu,e']
   rw[eF e,b]; exact ih
theorem KT.repl{H:Hp}{kvs:List (List Key×V)}{xs:List (List Key×Addr×AA)}(r:KT H kvs xs)(k:List Key){y:V}{u:AA}(ry:RelV y u) :
  KT H (kvs.map fun kv=>if kv.1=k then(kv.1,y) else kv) (xs.map (putAt k u)):=by
 induction r with
 | nil=>exact .nil
 | @cons p q ps qs h t ih=>
  rw[jk,jk];refine .cons ?_ ih;obtain⟨h1,h2,h3⟩:=h;unfold putAt;by_cases e:p.1=k
  ·rw[aV e,aV (h1.symm.trans e)]; exact⟨h1,h2,ry⟩
  ·rw[aN e,aN (fun z=>e (h1.trans z))]; exact⟨h1,h2,h3⟩
theorem KT.put{H:Hp}{kvs:List (List Key×V)}{xs:List (List Key×Addr×AA)}(r:KT H kvs xs)(k:List Key){b:Addr}{y:V}{u:AA}(hb:H b=some (.tup (k.map kV)))(ry:RelV y u) :
  KT H (putK kvs k y) (storedH xs k b u):=by
 have e:(kvs.any fun kv=>decide (kv.1=k))=(atKey xs k).isSome:=by
  rw[qD,(r.val k).Mg,Option.isSome_map]
 unfold putK storedH;rw[e];by_cases q:(atKey xs k).isSome=true
 ·rw[aV q,aV q]; exact r.repl k ry
 ·rw[aN q,aN q]; exact Paired.snoc r ⟨rfl,hb,ry⟩
theorem KT.keeps{H H':Hp}{kvs:List (List Key×V)}{xs:List (List Key×Addr×AA)}(r:KT H kvs xs)(ht:∀b ys,H b=some (.tup ys)->H' b=some (.tup ys)):KT H' kvs xs:=
 Paired.Xq r fun _ _ z=>⟨z.1,ht _ _ z.2.1,z.2.2⟩
section
variable{P:AC}{w:World}{H:Hp}{h:Heap}{a:Addr}
theorem VF{u:HO}(ok:jT P w H h)(e:Rd H a u):bM P w H h a u:=e.ok ok
theorem Fy{kvs:List (Key×V)}(ok:jT P w H h)(e:Rd H a (.dK kvs)):kvs.length<=sizeLine/\(a==sysModules)=false/\∃vs,KV kvs vs/\h.DictOf (cB P w) a vs:=
 show bM P w H h a (.dK kvs) from VF ok e
theorem rB{kvs:List (Key×V)}(ok:jT P w H h)(e:H a=some (.dK kvs)):kvs.length<=sizeLine/\(a==sysModules)=false/\∃vs,KV kvs vs/\h.DictOf (cB P w) a vs:=Fy ok (.inl e)
theorem Cd{ks:List Key}(ok:jT P w H h)(e:H a=some (.tup (ks.map kV))):(tupleKind (cB P w)).is h ks a:=by
 obtain⟨_,its,r,o,h1,h2,n,h3⟩:=(show bM P w H h a (.tup (ks.map kV)) from ok a _ e);exact⟨o,its.toArray,n,h1,h2,h3,by simpa using zV r⟩
theorem Fx{kvs:List (List Key×V)}(ok:jT P w H h)(e:Rd H a (.dT kvs)):kvs.length<=sizeLine/\(a==sysModules)=false /\
  ∃xs,KT H kvs xs/\h.DictOfH (tupleKind (cB P w)) a xs:=by
 obtain⟨z,y,xs,r,o,es,ep,h1,h2,h3,h4,h5⟩:=(show bM P w H h a (.dT kvs) from VF ok e);refine⟨z,y,xs,r,o,es,ep,h1,h2,h3,h4,fun x hx=>?_,h5⟩
 have all:∀{l:List (List Key×V)}{m:List (List Key×Addr×AA)},KT H l m->∀x∈m,(tupleKind (cB P w)).is h x.1 x.2.1:=by
  intro l m q
  induction q with
  | nil=>intro x hx; exact nomatch hx
  | @cons p q ps qs hq t ih=>
   intro x hx;rcases bK.mp hx with e | hx
   ·subst e;exact Cd ok (by rw[<- hq.1]; exact hq.2.1)
   ·exact ih x hx
 exact all r x hx
theorem abj{kvs:List (List Key×V)}(ok:jT P w H h)(e:H a=some (.dT kvs)):kvs.length<=sizeLine/\(a==sysModules)=false /\
  ∃xs,KT H kvs xs/\h.DictOfH (tupleKind (cB P w)) a xs:=Fx ok (.inl e)
end
def iV(H:Hp)(a:Addr)(y:V)(r:Option V):Prop:=
 (∃kvs k,Rd H a (.dK kvs)/\y=kV k/\r=gM kvs k)\/∃kvs k b,Rd H a (.dT kvs)/\y=.ref b/\H b=some (.tup (k.map kV))/\r=gM kvs k
def qz(H:Hp)(a:Addr)(y v:V)(H':Hp):Prop:=
 (∃kvs k,H a=some (.dK kvs)/\y=kV k/\kvs.length<sizeLine/\H'=upd H a (.dK (putK kvs k v))) \/
 ∃kvs k b,H a=some (.dT kvs)/\y=.ref b/\H b=some (.tup (k.map kV))/\kvs.length<sizeLine/\H'=upd H a (.dT (putK kvs k v))
theorem iV.k{H:Hp}{a:Addr}{kvs:List (Key×V)}{k:Key}(e:H a=some (.dK kvs)):iV H a (kV k) (gM kvs k):=.inl ⟨kvs,k,.inl e,rfl,rfl⟩
theorem qz.k{H:Hp}{a:Addr}{kvs:List (Key×V)}{k:Key}{v:V}(e:H a=some (.dK kvs))(hl:kvs.length<sizeLine):qz H a (kV k) v (upd H a (.dK (putK kvs k v))):=.inl ⟨kvs,k,e,rfl,hl,rfl⟩
section
variable{X:Cx}{ae:List (Addr×Obj)}{σ:St}{H:Hp}{s:AB}{a:Addr}{y v:V}{u r:AA}{o:Option V}{A:Around}{E:AA->AB->Prop}
theorem Inv.big(I:Inv X ae σ H s):sysModules<s.heap.objs.size:=by
 have h:mainGlobals<s.heap.objs.size:=(I.mod.glob.keeps I.bk).lt;exact Ec ⋯ h
theorem z_{Q:AA->AB->Prop}(hu:A.units+1<cLine)(I:Inv X ae σ H s)(g:iV H a y (some v))(ry:RelV y u)(h:∀w' s',Inv X ae σ H s'->RelV v w'->Q w' s') :
  wpAny (model X.prog X.w) A (getItem (.ref a) u) Q E s:=by
 rcases g with⟨kvs,k,e,ey,l⟩ | ⟨kvs,k,b,e,ey,eb,l⟩
 ·subst ey;obtain⟨z,hd,vs,rel,dd⟩:=Fy I.hok e;obtain⟨w',hw,Bb⟩:=mW.some_of (v:=v) (o:=valueAt vs k) (by rw[l]; exact rel.val k)
  exact wpAny_getItem_of (wZ ry) dd.mapOf hw (h w' _ (I.tok _) Bb)
 ·subst ey;cases(show u=Value.ref b from ry);obtain⟨z,hd,xs,rel,dd⟩:=Fx I.hok e;obtain⟨w',hw,Bb⟩:=mW.some_of (v:=v) (o:=(atKey xs k).map (·.2)) (by rw[l]; exact rel.val k)
  obtain⟨p,hp,hp2⟩:=Ju.mp hw;refine wpAny_getItem_heap (tupleKind_room_in1 hu) (Cd I.hok eb) dd hp ?_;rw[hp2];exact h w' _ (I.tok _) Bb
theorem oK{h':Heap}{t':Nat}{ob:HO}(I:Inv X ae σ H s)(mu:Mut (H a))(hs:Heap.SameBut a s.heap h')(he:∃q,h'.get? a=some q)(new:bM X.prog X.w (upd H a ob) h' a ob) :
  Inv X ae σ (upd H a ob) { s with heap:=h',toks:=t' }:=
 I.write (x:=a) (e:=a) mu (.inl rfl) (fun b q hb z=>(hs.2 b hb).trans z) he new
theorem Cu{P:AC}{w:World}{H':Hp}{h':Heap}{kvs:List (Key×V)}{vs:List (Key×AA)}(z:kvs.length<=sizeLine)(hd:(a==sysModules)=false)(rel:KV kvs vs)(dd:h'.DictOf (cB P w) a vs) :
  bM P w H' h' a (.dK kvs):=⟨z,hd,vs,rel,dd⟩
theorem z9{H':Hp}{Q:Unit->AB->Prop}(hu:A.units+1<cLine)(I:Inv X ae σ H s)(g:qz H a y v H')(ry:RelV y u)(rv:RelV v r)(h:∀s',Inv X ae σ H' s'->Q () s') :
  wpAny (model X.prog X.w) A (setItem (.ref a) u r) Q E s:=by
 rcases g with⟨kvs,k,e,ey,l,eH⟩ | ⟨kvs,k,b,e,ey,eb,l,eH⟩
 ·subst ey eH;obtain⟨z,hd,vs,rel,dd⟩:=rB I.hok e;have hz:vs.length<=sizeLine:=by rw[<- rel.length]; exact z
  have hl:(putK kvs k v).length<=sizeLine:=by have:=fY kvs k v; omega
  refine wpAny_setItem_pairs (hsz:=hz) (wZ ry) dd fun h' UG hs=>h _ ?_;have he:∃q,h'.get? a=some q:=let ⟨q,_,_,hq,_⟩:=UG; ⟨q,hq⟩;exact oK I (by rw[e]; exact True.intro) hs he (Cu hl hd (rel.put k rv) UG)
 ·subst ey eH;cases(show u=Value.ref b from ry);obtain⟨z,hd,xs,rel,dd⟩:=abj I.hok e;have hz:xs.length<=sizeLine:=by rw[<- Paired.length rel]; exact z
  have hl:(putK kvs k v).length<=sizeLine:=by have:=fY kvs k v; omega
  refine wpAny_setItem_heap (hsz:=hz) (tupleKind_room_in1 hu) (Cd I.hok eb) dd fun h' UG hs=>h _ ?_;obtain⟨q,es,ep,hq,h2,h3,h4,_,h5⟩:=UG;refine oK I (by rw[e]; exact True.intro) hs ⟨q,hq⟩ ⟨hl,hd,_,(rel.put k eb rv).keeps fun c ys ec=>?_,q,es,ep,hq,h2,h3,h4,h5⟩
  rw[aC (aaK ec e (fun z=>nomatch z))]
  exact ec
end
section
variable{X:Cx}{ae:List (Addr×Obj)}{σ:St}{H:Hp}{s:AB}{a:Addr}{kvs:List (Key×V)}{k:Key}{u:AA}{A:Around}{E:AA->AB->Prop}
end
theorem Fz{X:Cx}{ae:List (Addr×Obj)}{σ:St}{H:Hp}{s:AB}{a:Addr}{y:V}{o:Option V}(I:Inv X ae σ H s)(g:iV H a y o):s.TypeIs (.ref a) "dict" := by
 rcases g with⟨kvs,k,e,_,_⟩ | ⟨kvs,k,b,e,_,_,_⟩
 ·obtain⟨_,_,vs,_,dd⟩:=Fy I.hok e;exact dd.typeIs
 ·obtain⟨_,_,xs,_,dd⟩:=Fx I.hok e;exact dd.typeIs
def Vx(td ty tv:TE)(rd:V->V->Hp->VK->Prop):TS:=fun D σ H=>td σ H fun x H1=>ty σ H1 fun y H2=>∃a v,x=.ref a/\iV H2 a y (some v) /\
 tv σ H2 fun y2 H3=>rd v y2 H3 fun z H4=>∃H5,qz H4 a y z H5/\D.nx σ H5
section
variable{X:Cx}{o i e value:Expr}{pos pos' tpos:Pos}{td ty tv:TE}
theorem S8{op:Operator}{rd:V->V->Hp->VK->Prop}(hu:X.A.units+1<cLine)(ho:PE X o td)(hi:PE X i ty)(hv:PE X value tv)(hop:abD X op rd)
  (ha:∀ov iv new,augStore i ov iv new=(do holding [new,ov,iv] (setItem ov iv new); release [new,ov,iv] []; pure .next)):PS X (.AugAssign (.Subscript o i tpos) op value pos) (Vx td ty tv rd):=by
 symm;intro D I h;refine wpAny_AugAssign_SubscriptAny (cA (ho ae s σ H _ I h) fun u s1 ⟨x,H1,I1,rx,q1⟩=>cA (hi ae s1 σ H1 _ I1 q1) fun iv s2 ⟨y,H2,I2,ry,a,v,ex,g,q2⟩=>?_) ha;subst ex;obtain rfl:u=Value.ref a:=rx;refine z_ hu I2 g ry fun w' s3 I3 Bb=>cA (hv ae s3 σ H2 _ I3 q2) fun w2 s4 ⟨y2,H3,I4,ry2,q3⟩=>cA (hop ae s4 σ H3 v y2 w' w2 _ I4 Bb ry2 q3) fun w3 s5 qx=>?_;obtain⟨z,H4,I5,rz,H5,g5,q4⟩:=qx;exact z9 hu I5 g5 ry rz fun s6 I6=>⟨σ,H5,I6,q4⟩
end
theorem xu{P:AC}{w:World}{H:Hp}(h:Heap)(hb:sysModules<h.objs.size):bM P w H (h.push { cls:=.type "dict",data:=.dict #[] }) h.objs.size (.dK []):=
 ⟨eV _,beq_eq_false_iff_ne.mpr (Ne.symm (cZ hb)),[],.nil,Heap.DictOf.new h⟩
section
variable{X:Cx}{pos:Pos}
end
structure M1(X:Cx)(o:Expr)(m:Str)(apos:Pos)(e:Expr)(cpos:Pos):Prop where
 base:attributeBase o m X.env (eval o X.env)=eval o X.env
 few:((backTo cpos (starEach [e] X.env)).all (fun x=>!x.1)&&(backToKw cpos (keywordEach [] X.env)).all (fun x=>x.1.isSome)
  && decide (([e]:List Expr).length+([]:List Keyword).length+(if([]:List Keyword).isEmpty then 0 else 1)<30))=true
 line:(apos.endLine==cpos.line)=true
 trees:backTo cpos (starEach [e] X.env)=[(false,eval e X.env)]
structure M2(X:Cx)(o:Expr)(m:Str)(apos:Pos)(e f:Expr)(cpos:Pos):Prop where
 base:attributeBase o m X.env (eval o X.env)=eval o X.env
 few:((backTo cpos (starEach [e,f] X.env)).all (fun x=>!x.1)&&(backToKw cpos (keywordEach [] X.env)).all (fun x=>x.1.isSome)
  && decide (([e,f]:List Expr).length+([]:List Keyword).length+(if([]:List Keyword).isEmpty then 0 else 1)<30))=true
 line:(apos.endLine==cpos.line)=true
 trees:backTo cpos (starEach [e,f] X.env)=[(false,eval e X.env),(false,eval f X.env)]
def IsD(H:Hp)(a:Addr):Prop:=(∃kvs,Rd H a (.dK kvs))\/∃kvs,Rd H a (.dT kvs)
theorem Qx{X:Cx}{ae:List (Addr×Obj)}{σ:St}{H:Hp}{s:AB}{a:Addr}(I:Inv X ae σ H s)(d:IsD H a) :
  s.TypeIs (.ref a) "dict" /\ (∀b,Value.ref a=.ref b->∃ob,s.heap.get? b=some ob/\ob.dict=none)/\(a==sysModules)=false:=by
 rcases d with⟨kvs,e⟩ | ⟨kvs,e⟩
 ·obtain⟨_,hd,vs,_,dd⟩:=Fy I.hok e;refine⟨dd.typeIs,fun b q=>?_,hd⟩;cases q;obtain⟨ob,_,_,h1,h2,_⟩:=dd;exact⟨ob,h1,h2.2.1⟩
 ·obtain⟨_,hd,xs,_,dd⟩:=Fx I.hok e;refine⟨dd.typeIs,fun b q=>?_,hd⟩;cases q;obtain⟨ob,_,_,h1,h2,_⟩:=dd;exact⟨ob,h1,h2.2.1⟩
section
variable{X:Cx}{ae:List (Addr×Obj)}{σ:St}{H:Hp}{s:AB}{a:Addr}{y d:V}{u r:AA}{o:Option V}{A:Around}{E:AA->AB->Prop}
theorem Yb{Q:AA->AB->Prop}(hu:A.units+1<cLine)(I:Inv X ae σ H s)(g:iV H a y o)(ry:RelV y u)(rd:RelV d r)(h:∀w' s',Inv X ae σ H s'->RelV (o.getD d) w'->Q w' s') :
  wpAny (model X.prog X.w) A (call (.builtin "dict.get") [.ref a,u,r]) Q E s:=by
 rcases g with⟨kvs,k,e,ey,l⟩ | ⟨kvs,k,b,e,ey,eb,l⟩
 ·subst ey;obtain⟨z,hd,vs,rel,dd⟩:=Fy I.hok e;refine call_meetsIn PySem.F.slot_dict_get dd.typeIs PySem.F.entry_dict_get (PySem.F.args_dict_get_3 _ _ _) (meets_dict_get_default (cB X.prog X.w) a (wZ ry) hd r) ⟨_,dd.mapOf,h _ _ (I.tok _) ?_⟩;rw[l];exact(rel.val k).getD rd
 ·subst ey;cases(show u=Value.ref b from ry);obtain⟨z,hd,xs,rel,dd⟩:=Fx I.hok e;refine call_meetsIn PySem.F.slot_dict_get dd.typeIs PySem.F.entry_dict_get (PySem.F.args_dict_get_3 _ _ _) (meetsH_dict_get_default (tupleKind (cB X.prog X.w)) a b hd r) ⟨tupleKind_room_in1 hu,k,xs,Cd I.hok eb,dd,h _ _ (I.tok _) ?_⟩;rw[l];exact(rel.val k).getD rd
end
def Om(td ty tx:TE):TE:=fun σ H Q=>td σ H fun x H1=>∃a,x=.ref a/\IsD H1 a/\ty σ H1 fun y H2=>tx σ H2 fun z H3=>∃o,iV H3 a y o/\Q (o.getD z) H3
section
variable{X:Cx}{o e f:Expr}{apos cpos:Pos}{td ty tx:TE}
theorem Ey(hu:X.A.units+1<cLine)(ho:PE X o td)(he:PE X e ty)(hf:PE X f tx)(m:M2 X o "get" apos e f cpos):PE X (.Call (.Attribute o "get" apos) [e,f] [] cpos) (Om td ty tx):=by
 symm;intro Q I h;refine wpAny_Call_method m.base m.few m.line PySem.F.plainAttrs_dict PySem.F.slot_dict_get PySem.F.type_dict_get (cA (ho ae s σ H _ I h) fun u s1 qx=>?_);obtain⟨x,H1,I1,rx,a,ex,d,q1⟩:=qx;subst ex;obtain rfl:u=Value.ref a:=rx;obtain⟨t1,t2,_⟩:=Qx I1 d;refine⟨t1,t2,?_⟩;rw[m.trees]
 refine Calls.callWith_builtin rfl (Calls.evalArgs_plain (Calls.spliced_cons (cA (he ae s1 σ H1 _ I1 q1) fun iv s2 ⟨y,H2,I2,ry,q2⟩=>
  Calls.spliced_cons (cA (hf ae s2 σ H2 _ I2 q2) fun fv s3 ⟨z,H3,I3,rz,ov,g,q3⟩=>Calls.spliced_nil ?_))))
 exact Yb hu I3 g ry rz fun w' s4 I4 Bb=>⟨_,H3,I4,Bb,q3⟩
end
section
variable{X:Cx}{ae:List (Addr×Obj)}{σ:St}{H:Hp}{s:AB}{a:Addr}{kvs:List (Key×V)}{A:Around}{E:AA->AB->Prop}
end
section
variable{X:Cx}{ae:List (Addr×Obj)}{σ:St}{H:Hp}{s:AB}{a:Addr}{y:V}{u:AA}{A:Around}{E:AA->AB->Prop}
end
end _L
set_option maxHeartbeats 4000000
namespace _L
open PySem PySem.Spec PyProof.Rows
def jD(env:Env)(cs:List (Str×Addr))(y:Str×NameKind):List (Str×Addr):=
 if y.2==.free then(match env.cells.lookup y.1 with | some c=>(y.1,c)::cs | none=>cs) else cs
def qm(sc:Scope)(env:Env):List (Str×Addr):=sc.names.foldl (jD env) []
theorem FN{env:Env}:∀(ns:List (Str×NameKind))(acc:List (Str×Addr)),(∀y c,acc.lookup y=some c->env.cells.lookup y=some c)->∀y c,(ns.foldl (jD env) acc).lookup y=some c->env.cells.lookup y=some c
 | [],acc,h,y,c,e=>h y c e
 | n::ns,acc,h,y,c,e=>by
  refine FN ns (jD env acc n) (fun z d q=>?_) y c e;unfold jD at q;split at q
  ·split at q
   ·rename_i c' hc';rw[j5] at q;split at q
    ·rename_i hz;have hz':z=n.1:=by simpa using hz
     cases q;rw[hz']; exact hc'
    ·exact h z d q
   ·exact h z d q
  ·exact h z d q
theorem g8{sc:Scope}{env:Env}{y:Str}{c:Addr}(e:(qm sc env).lookup y=some c):env.cells.lookup y=some c:=
 FN sc.names [] (fun _ _ q=>by simp at q) y c e
theorem Kh{env:Env}{y:Str}{c:Addr}(hc:env.cells.lookup y=some c):∀(ns:List (Str×NameKind))(acc:List (Str×Addr)),acc.lookup y=some c->(ns.foldl (jD env) acc).lookup y=some c
 | [],acc,h=>h
 | n::ns,acc,h=>by
  refine Kh hc ns (jD env acc n) ?_;unfold jD;split
  ·split
   ·rename_i c' hc';rw[j5];split
    ·rename_i hz;have hz':y=n.1:=by simpa using hz
     rw[<- hz',hc] at hc';exact hc'.symm
    ·exact h
   ·exact h
  ·exact h
theorem HJ{env:Env}{y:Str}{c:Addr}(hc:env.cells.lookup y=some c):∀(ns:List (Str×NameKind))(acc:List (Str×Addr)),(y,NameKind.free)∈ns->(ns.foldl (jD env) acc).lookup y=some c
 | [],_,h=>by simp at h
 | n::ns,acc,h=>by
  rcases bK.mp h with e | h
  ·subst e;refine Kh hc ns _ ?_;unfold jD;simp[hc]
  ·exact HJ hc ns _ h
theorem tW{sc:Scope}{env:Env}{x:Str}{k':NameKind}(h:(relabel sc env).names.lookup x=some k'):∃k,(x,k)∈sc.names/\(k'=k\/(k=.free/\k'=.cell)):=by
 have m:=PySem.mem_of_lookup h;unfold relabel at m;obtain⟨⟨n,k⟩,hm,e⟩:=d9.mp m;dsimp only at e;split at e
 ·rename_i hc;injection e with e1 e2
  subst e1;refine⟨k,hm,.inr ⟨?_,e2.symm⟩⟩
  have:(k==NameKind.free)=true:=by
   cases hk:(k==NameKind.free) with
   | true=>rfl
   | false=>rw[hk] at hc; simp at hc
  exact beq_iff_eq.mp this
 ·injection e with e1 e2
  subst e1 e2;exact⟨k,hm,.inl rfl⟩
theorem qM{env:Env}{x:Str}(hf:env.scope.kind=.function)(hk:env.kindOf x=some .cell):∀(ns:List (Str×NameKind)),ns.lookup x=some .free ->
  (ns.map fun(y:Str×NameKind)=>if(y.2==.free&&env.scope.kind==.function&&env.kindOf y.1==some .cell) then(y.1,NameKind.cell) else(y.1,y.2)).lookup x=some .cell
 | [],h=>by simp at h
 | (n,k)::r,h=>by
  have ih:=qM hf hk r;rw[jk];cases hx:x==n with
  | true=>
   have e:x=n:=by simpa using hx
   subst e;simp only[j5,beq_self_eq_true] at h;cases h;dsimp only;rw[aV (by simp[hf,hk])]
   simp[j5]
  | false=>
   simp only[j5,hx] at h;dsimp only;split
   ·simp only[j5,hx]; exact ih h
   ·simp only[j5,hx]; exact ih h
def Rz(X:Cx)(N':List Str)(sc:Scope)(fp:List Addr)(s:AB)(H:Hp):Cx where
 prog:=X.prog
 w:=X.w
 K:=X.K
 mg:=X.mg
 base:=X.base
 A:=X.A
 N:=N'
 s₀:=s
 H₀:=H
 env:=compEnvC sc (qm sc X.env) s.heap.objs.size X.env
 outer:=X.stack
 stack:=X.stack
 ex:=fp
 fn:=fun _=>false
 calm:=X.calm
 pn:=[]
 xe:=fun _ _=>False
structure uq(X:Cx)(N':List Str)(js:List Nat)(sc:Scope):Prop where
 kind:sc.kind=.function
 lR:∀y∈sc.names,y.2≠.cell
 names:∀y∈sc.names,y.2=.local->sc.names.lookup y.1=some .local
 clos:closureFor sc X.env=pure (qm sc X.env)
 all:(sc.names.all fun y=>y.2 != .free || (X.env.cells.lookup y.1).isSome)=true
 len:N'.length=js.length+1
 cap:∀(i j:Nat),js[i]?=some j->N'[i+1]?=X.N[j]?
 Q9:∀y∈N'.tail,X.env.kindOf y=some .cell/\sc.names.lookup y=some .free
def bW(js:List Nat)(σ:St):St:=js.map fun j=>(σ[j]?).join
def iu(js:List Nat)(wi:TI)(te:TE):TE:=fun σ H Q=>wi σ H fun J H1=>∀acc,H1 acc=none->∃W:Nat->Nat->List V->Hp->Prop,(∃m,W 0 m [] (upd H1 acc (.lst [])))/\∀i m ys H2,W i m ys H2 ->
 (J.stop i H2/\Q (.ref acc) H2)\/(J.go i H2/\∀x H3,J.Dm i H2 x H3->te (some x::bW js σ) H3 fun y H4=>H4 acc=some (.lst ys)/\ys.length<sizeLine/\∃m',m'<m/\W (i+1) m' (ys++[y]) (upd H4 acc (.lst (ys++[y]))))
def adt:Key->PyData
 | .inl i=>.int i
 | .inr x=>.str x
mutual
def At(H:Hp):PyData->V->Prop
 | .none,v=>v=.non
 | .bool b,v=>v=.bl b
 | .int i,v=>v=.int i
 | .str x,v=>v=.str x
 | .tuple ds,v=>∃a xs,v=.ref a/\H a=some (.tup xs)/\aj H ds xs
 | .list ds,v=>∃a xs,v=.ref a/\H a=some (.lst xs)/\aj H ds xs
 | .dict kvs,v=>∃a es,v=.ref a/\H a=some (.dK es)/\Dh H kvs es
def aj(H:Hp):List PyData->List V->Prop
 | [],xs=>xs=[]
 | d::ds,xs=>∃x r,xs=x::r/\At H d x/\aj H ds r
def Dh(H:Hp):List (PyData×PyData)->List (Key×V)->Prop
 | [],es=>es=[]
 | (k,d)::r,es=>∃q v t,es=(q,v)::t/\k=adt q/\At H d v/\Dh H r t
end
mutual
theorem At.mono{H H':Hp}(m:aJ H H'):∀(d:PyData)(v:V),At H d v->At H' d v
 | .none,_,h=>by unfold At at h ⊢; exact h
 | .bool _,_,h=>by unfold At at h ⊢; exact h
 | .int _,_,h=>by unfold At at h ⊢; exact h
 | .str _,_,h=>by unfold At at h ⊢; exact h
 | .tuple ds,v,h=>by
  unfold At at h ⊢;obtain⟨a,xs,e,h1,h2⟩:=h;exact⟨a,xs,e,m _ _ h1,aj.mono m ds xs h2⟩
 | .list ds,v,h=>by
  unfold At at h ⊢;obtain⟨a,xs,e,h1,h2⟩:=h;exact⟨a,xs,e,m _ _ h1,aj.mono m ds xs h2⟩
 | .dict kvs,v,h=>by
  unfold At at h ⊢;obtain⟨a,es,e,h1,h2⟩:=h;exact⟨a,es,e,m _ _ h1,Dh.mono m kvs es h2⟩
theorem aj.mono{H H':Hp}(m:aJ H H'):∀(ds:List PyData)(xs:List V),aj H ds xs->aj H' ds xs
 | [],_,h=>by unfold aj at h ⊢; exact h
 | d::ds,xs,h=>by
  unfold aj at h ⊢;obtain⟨x,r,e,h1,h2⟩:=h;exact⟨x,r,e,At.mono m d x h1,aj.mono m ds r h2⟩
theorem Dh.mono{H H':Hp}(m:aJ H H'):∀(kvs:List (PyData×PyData))(es:List (Key×V)),Dh H kvs es->Dh H' kvs es
 | [],_,h=>by unfold Dh at h ⊢; exact h
 | (k,d)::r,es,h=>by
  unfold Dh at h ⊢;obtain⟨q,v,t,e,e',h1,h2⟩:=h;exact⟨q,v,t,e,e',At.mono m d v h1,Dh.mono m r t h2⟩
end
theorem aj.length{H:Hp}:∀{ds:List PyData}{xs:List V},aj H ds xs->xs.length=ds.length
 | [],xs,h=>by unfold aj at h; rw[h]; rfl
 | d::ds,xs,h=>by
  unfold aj at h;obtain⟨x,r,e,_,h2⟩:=h;rw[e,fC,fC,aj.length h2]
theorem aj.get{H:Hp}:∀{ds:List PyData}{xs:List V}{i:Nat}{x:V},aj H ds xs->xs[i]?=some x->∃d,ds[i]?=some d/\At H d x
 | [],xs,i,x,h,e=>by unfold aj at h; rw[h] at e; simp at e
 | d::ds,xs,i,x,h,e=>by
  unfold aj at h;obtain⟨y,r,e1,h1,h2⟩:=h;subst e1;cases i with
  | zero=>simp at e; subst e; exact⟨d,rfl,h1⟩
  | succ i=>
   obtain⟨d',q1,q2⟩:=aj.get (i:=i) (x:=x) h2 (by simpa using e)
   exact⟨d',by simpa using q1,q2⟩
theorem aj.getD{H:Hp}:∀{ds:List PyData}{xs:List V}{i:Nat}{d:PyData},aj H ds xs->ds[i]?=some d->∃x,xs[i]?=some x/\At H d x
 | [],xs,i,d,h,e=>by simp at e
 | d'::ds,xs,i,d,h,e=>by
  unfold aj at h;obtain⟨y,r,e1,h1,h2⟩:=h;subst e1;cases i with
  | zero=>simp at e; subst e; exact⟨y,rfl,h1⟩
  | succ i=>
   obtain⟨x,q1,q2⟩:=aj.getD (i:=i) (d:=d) h2 (by simpa using e)
   exact⟨x,by simpa using q1,q2⟩
theorem aj.append{H:Hp}:∀{ds es:List PyData}{xs ys:List V},aj H ds xs->aj H es ys->aj H (ds++es) (xs++ys)
 | [],es,xs,ys,h,q=>by unfold aj at h; subst h; exact q
 | d::ds,es,xs,ys,h,q=>by
  unfold aj at h;obtain⟨x,r,e,h1,h2⟩:=h;subst e;show aj H (d::(ds++es)) (x::(r++ys));unfold aj;exact⟨x,r++ys,rfl,h1,aj.append h2 q⟩
theorem aj.take{H:Hp}:∀{ds:List PyData}{xs:List V}(n:Nat),aj H ds xs->aj H (ds.take n) (xs.take n)
 | ds,xs,0,h=>by simp[aj]
 | [],xs,n+1,h=>by unfold aj at h; subst h; simp[aj]
 | d::ds,xs,n+1,h=>by
  unfold aj at h;obtain⟨x,r,e,h1,h2⟩:=h;subst e;show aj H (d::ds.take n) (x::r.take n);unfold aj;exact⟨x,_,rfl,h1,aj.take n h2⟩
theorem aj.nil{H:Hp}:aj H [] []:=by unfold aj; rfl
theorem aj.cons{H:Hp}{d:PyData}{ds:List PyData}{x:V}{xs:List V}(h1:At H d x)(h2:aj H ds xs):aj H (d::ds) (x::xs):=by
 unfold aj; exact⟨x,xs,rfl,h1,h2⟩
theorem At.tup{H:Hp}{a:Addr}{xs:List V}{ds:List PyData}(h:H a=some (.tup xs))(q:aj H ds xs):At H (.tuple ds) (.ref a):=by
 unfold At; exact⟨a,xs,rfl,h,q⟩
theorem At.lst{H:Hp}{a:Addr}{xs:List V}{ds:List PyData}(h:H a=some (.lst xs))(q:aj H ds xs):At H (.list ds) (.ref a):=by
 unfold At; exact⟨a,xs,rfl,h,q⟩
theorem At.int{H:Hp}(i:Int):At H (.int i) (.int i):=by unfold At; rfl
theorem At.str{H:Hp}(x:Str):At H (.str x) (.str x):=by unfold At; rfl
theorem At.bool{H:Hp}(b:Bool):At H (.bool b) (.bl b):=by unfold At; rfl
theorem aM{H:Hp}{p:Addr}(h:H p=none)(o:HO):aJ H (upd H p o):=fun b u q=>by rw[aC (cC q h)]; exact q
def N8:PyData->String
 | .none=>"NoneType"
 | .bool _=>"bool"
 | .int _=>"int"
 | .str _=>"str"
 | .tuple _=>"tuple"
 | .list _=>"list"
 | .dict _=>"dict"
theorem At.ty{K:Frag}{H:Hp}{d:PyData}{v:V}(h:At H d v):qw K H v (.type (N8 d)):=by
 cases d with
 | none=>unfold At at h; subst h; exact .non
 | bool b=>unfold At at h; subst h; exact .bl b
 | int i=>unfold At at h; subst h; exact .int i
 | str x=>unfold At at h; subst h; exact .str x
 | tuple ds=>unfold At at h; obtain⟨a,xs,e,h1,_⟩:=h; subst e; exact .tup h1
 | list ds=>unfold At at h; obtain⟨a,xs,e,h1,_⟩:=h; subst e; exact .lst h1
 | dict ds=>unfold At at h; obtain⟨a,xs,e,h1,_⟩:=h; subst e; exact .dK h1
def isInt:PyData->Bool
 | .int _=>true
 | .bool _=>true
 | _=>false
def isTup:PyData->Bool
 | .tuple _=>true
 | _=>false
def isBool:PyData->Bool
 | .bool _=>true
 | _=>false
def isStr:PyData->Bool
 | .str _=>true
 | _=>false
theorem Ui(K:Frag)(d:PyData):kitOne K (.type (N8 d)) (.type "int")=some (isInt d):=by cases d <;> kernel_rfl
theorem JV(K:Frag)(d:PyData):kitOne K (.type (N8 d)) (.type "tuple")=some (isTup d):=by cases d <;> kernel_rfl
theorem Qp(K:Frag)(d:PyData):kitOne K (.type (N8 d)) (.type "bool")=some (isBool d):=by cases d <;> kernel_rfl
theorem Uh(K:Frag)(d:PyData):kitOne K (.type (N8 d)) (.type "str")=some (isStr d):=by cases d <;> kernel_rfl
section
variable{X:Cx}
def GZ(T:String)(f:PyData->Bool):List V->Hp->VK->Prop:=fun vs H Q=>∃v d,vs=[v,.ty T]/\At H d v/\Q (.bl (f d)) H
theorem xg{T:String}{f:PyData->Bool}(hf:∀K d,kitOne K (.type (N8 d)) (.type T)=some (f d)):cJ X (.builtin "isinstance") (GZ T f):=by
 symm;intro vs us Q I r h;obtain⟨v,d,rfl,hv,q⟩:=h;obtain⟨u,t,rfl,ru,rt⟩:=r.two;cases(show t=Value.type T from rt);exact zW I ru (hv.ty (K:=X.K)) (hf X.K d) fun tk=>⟨.bl (f d),H,I.tok tk,rfl,q⟩
theorem Ul:cJ X (.builtin "isinstance") (GZ "int" isInt):=xg Ui
theorem J2:cJ X (.builtin "isinstance") (GZ "tuple" isTup):=xg JV
theorem Qw:cJ X (.builtin "isinstance") (GZ "bool" isBool):=xg Qp
theorem u_:cJ X (.builtin "isinstance") (GZ "str" isStr):=xg Uh
theorem Iu:∀{bs:List Bool}{us:List AA},Vals (bs.map V.bl) us->us=bs.map Value.bool
 | [],_,.nil=>rfl
 | b::bs,_,.cons r t=>by
  cases(show _=Value.bool b from r);rw[Iu t]; rfl
theorem range_all(bs:List Bool):(List.range bs.length).all (fun i=>bs.getD i false)=bs.all id:=by
 rw[Eh,oY,oY];constructor
 ·intro h b hb;obtain⟨i,hi,rfl⟩:=List.mem_iff_getElem.mp hb;have:=h i (List.mem_range.mpr hi);simpa[iI,hi] using this
 ·intro h i hi;have hi':=List.mem_range.mp hi;have:=h bs[i] (sH hi');simpa[iI,hi'] using this
theorem iZ(hc:X.calm=true):cJ X (.builtin "all") (fun vs H Q=>∃(p:Addr)(bs:List Bool),vs=[.ref p]/\H p=some (.lst (bs.map V.bl))/\Q (.bl (bs.all id)) H):=by
 symm;intro vs us Q I r h;obtain⟨p,bs,rfl,hp,q⟩:=h;obtain⟨u,rfl,ru⟩:=r.one;cases ru;obtain⟨z,its,n,rv,e⟩:=I.hok p _ hp;have e2:=Iu rv;subst e2;have hl:s.heap.IsList p (bs.map Value.bool).toArray:=⟨_,e,rfl,n,rfl⟩;have lt:p<s.heap.objs.size:=bI e;refine call_all_walk (DY hl ?_);refine⟨_,_,_,_,_,_,fun i=>bs.getD i false,rfl,Walks.list (A:=X.A.in1) (I.ok.hd hc) _ p (cZ lt) _,⟨⟨_,cI _ rfl,rfl,rfl⟩,hl.push _⟩,fun i v s' Q' E' hv hq=>?_,fun h' tk hk=>?_⟩
 ·have hv':(bs.map Value.bool).toArray[i]?=some v:=hv
  have:v=.bool (bs.getD i false):=by
   simp only[List.getElem?_toArray,cD] at hv';cases q:bs[i]? with
   | none=>rw[q] at hv'; simp at hv'
   | some b=>rw[q] at hv'; simp at hv'; simp[iI,q,<- hv']
  rw[this];exact D_ hq
 ·have e3:(List.range (bs.map Value.bool).toArray.size).all (fun i=>bs.getD i false)=bs.all id:=by
   rw[d_,bZ]; exact range_all bs
  refine⟨.bl (bs.all id),H,I.kept (t':=tk) (fun b o eb=>?_),by rw[<- e3]; rfl,q⟩
  exact hk b o (by simpa using cZ (bI eb)) (cU _ eb)
theorem Ex:∀(ns:List Int),preSum (fun i=>ns.getD i 0) ns.length=ns.sum:=by
 have key:∀(ns:List Int)(k:Nat),k<=ns.length->preSum (fun i=>ns.getD i 0) k=(ns.take k).sum:=by
  intro ns k
  induction k with
  | zero=>intro _; rfl
  | succ k ih=>
   intro hk
   have e:ns.take (k+1)=ns.take k++[ns.getD k 0]:=by
    rw[List.take_succ,cN ∅]
    simp[iI,cN (show k<ns.length by omega)]
   show preSum _ k+ns.getD k 0=_;rw[ih ∅,e,List.sum_append]
   simp
 intro ns;rw[key ns ns.length (bc _),mV]
theorem J4{ns:List Int}{its:List AA}(r:Vals (ns.map V.int) its){i:Nat}{v:AA}(h:its.toArray[i]?=some v):∃t,v=.int (ns.getD i 0) t:=by
 have h':its[i]?=some v:=by simpa using h
 have hi:i<its.length:=(iW.mp h').1;have hl:=r.length;rw[bZ] at hl;obtain⟨u,hu,ru⟩:=r.get (i:=i) (x:=V.int (ns[i]'∅)) (by rw[cD,cN ∅]; rfl)
 rw[h'] at hu;cases hu;obtain⟨t,e⟩:=ru;exact⟨t,by rw[e,iI,cN ∅]; rfl⟩
theorem fZ(hc:X.calm=true):cJ X (.builtin "sum") (fun vs H Q=>∃(p:Addr)(ns:List Int),vs=[.ref p]/\(H p=some (.lst (ns.map V.int))\/H p=some (.tup (ns.map V.int)))/\Q (.int ns.sum) H):=by
 symm;intro vs us Q I r h;obtain⟨p,ns,rfl,hp,q⟩:=h;obtain⟨u,rfl,ru⟩:=r.one;cases ru
 have fin:∀{h':Heap}{tk:Nat}{t':Tok}{o:Obj},(∀b o',b∉[s.heap.objs.size]->(s.heap.push o).get? b=some o'->h'.get? b=some o')->EP X ae σ Q (.int (preSum (fun i=>ns.getD i 0) ns.length) t') { s with heap:=h',toks:=tk }:=fun {h' tk t' o} hk=>
  ⟨.int ns.sum,H,I.kept (t':=tk) (fun b o' eb=>hk b o' (by simpa using cZ (bI eb)) (cU _ eb)),⟨t',by rw[Ex]⟩,q⟩
 rcases hp with hp | hp
 ·obtain⟨z,its,n,rv,e⟩:=I.hok p _ hp;have hl:s.heap.IsList p its.toArray:=⟨_,e,rfl,n,rfl⟩;have lt:p<s.heap.objs.size:=bI e;have hlen:=rv.length;rw[bZ] at hlen;refine call_sum_walkG (DY hl ?_);refine⟨_,_,_,_,_,_,fun i=>ns.getD i 0,rfl,Walks.list (A:=X.A.in1) (I.ok.hd hc) _ p (cZ lt) _,⟨⟨_,cI _ rfl,rfl,rfl⟩,hl.push _⟩,fun b hb=>?_,fun i v hv=>J4 rv hv,fun h' tk t' hk=>?_⟩
  ·show b<(s.heap.push _).objs.size;rw[gf];rcases bK.mp hb with rfl | hb
   ·exact Bg _
   ·rw[dM.mp hb]; exact Bh lt
  ·rw[d_,<- hlen]; exact fin hk
 ·obtain⟨z,its,rv,ht⟩:=I.hok p _ hp;have ht':s.heap.IsTuple p its.toArray:=ht;have lt:p<s.heap.objs.size:=by obtain⟨o,e,_⟩:=ht; exact bI e
  have hlen:=rv.length;rw[bZ] at hlen;refine call_sum_walkG (Ep ht' ?_);refine⟨_,_,_,_,_,_,fun i=>ns.getD i 0,rfl,Walks.tuple (A:=X.A.in1) (I.ok.hd hc) _ p (cZ lt) _,⟨⟨_,cI _ rfl,rfl,rfl⟩,?_⟩,fun b hb=>?_,fun i v hv=>J4 rv hv,fun h' tk t' hk=>?_⟩
  ·obtain⟨o,e,c⟩:=ht';exact⟨o,cU _ e,c⟩
  ·show b<(s.heap.push _).objs.size;rw[gf];rcases bK.mp hb with rfl | hb
   ·exact Bg _
   ·rw[dM.mp hb]; exact Bh lt
  ·rw[d_,<- hlen]; exact fin hk
theorem Ae:cJ X (.type "int") (fun vs H Q=>∃(b:Bool),vs=[.bl b]/\Q (.int (if b then 1 else 0)) H):=by
 symm;intro vs us Q I r h;obtain⟨b,rfl,q⟩:=h;obtain⟨u,rfl,ru⟩:=r.one;cases(show u=Value.bool b from ru);exact call_int_bool ⟨.int (if b then 1 else 0),H,I.tok _,⟨_,rfl⟩,q⟩
end
mutual
theorem wg{P:AC}{w:World}{H:Hp}{h:Heap}(ok:jT P w H h):∀(d:PyData)(v:V)(u:AA),At H d v->RelV v u->d.hasDict=false->∃as,Reads h u d as
 | .none,v,u,a,r,_=>by unfold At at a; subst a; cases r; exact⟨_,.none⟩
 | .bool b,v,u,a,r,_=>by unfold At at a; subst a; cases r; exact⟨_,.bool b⟩
 | .int i,v,u,a,r,_=>by unfold At at a; subst a; obtain⟨t,rfl⟩:=r; exact⟨_,.int i t⟩
 | .str x,v,u,a,r,_=>by unfold At at a; subst a; obtain⟨t,rfl⟩:=r; exact⟨_,.str x t⟩
 | .tuple ds,v,u,a,r,nd=>by
  unfold At at a;obtain⟨p,xs,e,hp,ha⟩:=a;subst e;cases r;obtain⟨_,its,rv,o,e1,e2,n,e3⟩:=ok p _ hp;obtain⟨as,ra⟩:=sE ok ds xs its ha rv (by simpa[PyData.hasDict] using nd)
  exact⟨_,.tuple e1 e2 e3 (by simpa using ra)⟩
 | .list ds,v,u,a,r,nd=>by
  unfold At at a;obtain⟨p,xs,e,hp,ha⟩:=a;subst e;cases r;obtain⟨_,its,n,rv,e1⟩:=ok p _ hp;obtain⟨as,ra⟩:=sE ok ds xs its ha rv (by simpa[PyData.hasDict] using nd)
  exact⟨_,.list e1 rfl rfl (by simpa using ra)⟩
 | .dict kvs,v,u,a,r,nd=>by simp[PyData.hasDict] at nd
theorem sE{P:AC}{w:World}{H:Hp}{h:Heap}(ok:jT P w H h):∀(ds:List PyData)(xs:List V)(us:List AA),aj H ds xs->Vals xs us->PyData.hasDictAll ds=false->∃as,ReadsAll h us ds as
 | [],xs,us,a,r,_=>by unfold aj at a; subst a; cases r; exact⟨_,.nil⟩
 | d::ds,xs,us,a,r,nd=>by
  unfold aj at a;obtain⟨x,t,e,h1,h2⟩:=a;subst e;have nd':d.hasDict=false/\PyData.hasDictAll ds=false:=by simpa[PyData.hasDictAll] using nd
  cases r with
  | cons r1 r2=>
   obtain⟨as,q1⟩:=wg ok d x _ h1 r1 nd'.1;obtain⟨bs,q2⟩:=sE ok ds t _ h2 r2 nd'.2;exact⟨_,.cons q1 q2⟩
end
structure ags(d:PyData):Prop where
 can:d.showable=true
 nod:d.hasDict=false
 len:d.shown.length<=sizeLine
 dep:d.depth<=60
section
variable{X:Cx}
def Gi(mg:Str->Option AA)(x:Str)(i:Int):Prop:=∃t,mg x=some (.int i t)
theorem Bs{x:Str}{i:Int}{pos:Pos}(h:Gi X.mg x i)(hg: ~~~(Gl X x))(hd:((x==("__debug__" : Str))=false)⁻¹):PE X (.Name x pos) (tC (.int i)):=by
 obtain⟨t,ht⟩:=h;exact Bu hg ht ⟨t,rfl⟩ hd
structure Ct(P:AC)(w:World)(K:Frag)(mg:Str->Option AA)(base:Heap)(k:Nat)(x:Str)(ps:List Str)(sp:Sp) where
 f:Addr
 fd:FuncData
 G:bH P w K mg base ig k f fd ps sp
 kp:keepIn K (.ref f)=true
 b:Binds K fd ps []
 m:mg x=some (.ref f)
def Ct.mono{P:AC}{w:World}{K:Frag}{mg:Str->Option AA}{base:Heap}{j k:Nat}{x:Str}{ps:List Str}{sp:Sp}(c:Ct P w K mg base j x ps sp)(h:j<=k):Ct P w K mg base k x ps sp:={ c with G:=c.G.mono h }
theorem aaz{k:Nat}{x:Str}{ps:List Str}{sp:Sp}{e:Expr}{es:List Expr}{t:TA}{p pos:Pos}(c:Ct X.prog X.w X.K X.mg X.base k x ps sp)(hr:dR k X.A)(ha:PA X (e::es) t)(hg: ~~~(Gl X x))
  (hdb:((x==("__debug__" : Str))=false)⁻¹) (he: ~~~(starEach (e::es) X.env=(false,eval e X.env)::starEach es X.env)) (hpl: ~~~((backTo pos (starEach es X.env)).any (·.1)=false)) :
  PE X (.Call (.Name x p) (e::es) [] pos) (mZ sp [] E0 t):=JK c.G hr hg c.m c.kp c.b .nil zO ha hdb he hpl
end
theorem Sh{v:V}{σ:St}{H:Hp}{Q:VK}:mR 0 (some v::σ) H Q=Q v H:=rfl
theorem Sg{i:Nat}{o:Option V}{σ:St}{H:Hp}{Q:VK}:mR (i+1) (o::σ) H Q=mR i σ H Q:=rfl
theorem Sv{v:V}{o:Option V}{σ:St}:(o::σ).set 0 (some v)=some v::σ:=rfl
theorem Su{i:Nat}{v:V}{o:Option V}{σ:St}:(o::σ).set (i+1) (some v)=o::σ.set i (some v):=rfl
theorem O9{t:TG}{u:Rm}{v:V}{r:List V}{σ:St}{H:Hp}{Q:St->Hp->Prop}:jQ t u (v::r) σ H Q=t v σ H fun σ' H'=>u r σ' H' Q:=rfl
theorem Sw{σ:St}{H:Hp}{Q:St->Hp->Prop}:Cp [] σ H Q=Q σ H:=rfl
theorem dC{b:Bool}{A B:Prop}(h1:b=true->A)(h2:b=false->B):if b=true then A else B:=by
 cases b
 ·rw[aN ⋯]; exact h2 rfl
 ·rw[aV rfl]; exact h1 rfl
theorem WR{i j:Int}{H:Hp}{Q:VK}:rEq (.int i) (.int j) H Q=Q (.bl (decide (i=j))) H:=by
 unfold rEq K9; simp
theorem WM{i j:Int}{H:Hp}{Q:VK}:rNe (.int i) (.int j) H Q=Q (.bl (!decide (i=j))) H:=by
 unfold rNe K9; simp
theorem WQ{i j:Str}{H:Hp}{Q:VK}:rEq (.str i) (.str j) H Q=Q (.bl (decide (i=j))) H:=by
 unfold rEq K9; simp
theorem WL{i j:Str}{H:Hp}{Q:VK}:rNe (.str i) (.str j) H Q=Q (.bl (!decide (i=j))) H:=by
 unfold rNe K9; simp
theorem Sx{i:Int}{P:Int->Prop}:(∃k,[V.int i]=[V.int k]/\P k)=P i:=by
 simp
theorem Sy{i:Bool}{P:Bool->Prop}:(∃k,[V.bl i]=[V.bl k]/\P k)=P i:=by
 simp
theorem O_{i j:Int}{P:Int->Int->Prop}:(∃a b,[V.int i,V.int j]=[V.int a,V.int b]/\P a b)=P i j:=by
 refine propext ⟨?_,fun h=>⟨i,j,rfl,h⟩⟩;rintro⟨a,b,e,h⟩;cases e;exact h
theorem Ss{b:Bool}{P:Bool->Prop}:(∃k,V.bl b=V.bl k/\P k)=P b:=by
 simp
theorem WN{i:Int}{P:Int->Prop}:(∃k,V.int i=V.int k/\P k)=P i:=by
 simp
theorem aai{i j:Int}{P:Int->Int->Prop}:(∃a b,V.int i=V.int a/\V.int j=V.int b/\P a b)=P i j:=by
 simp
theorem uh{α β:Type}{g:β->α->β}{f:α->β->Sem (ForInStep β)}:∀(l:List α)(c:β),(∀x∈l,∀c,f x c=pure (.yield (g c x)))->forIn l c f=(pure (l.foldl g c):Sem β)
 | [],c,_=>rfl
 | x::l,c,h=>by
  rw[DR,h x eX c,pure_bind];exact uh l (g c x) fun y hy=>h y (dX _ hy)
theorem jC{sc:Scope}{env:Env}(h:(sc.names.all fun y=>y.2 != .free || (env.cells.lookup y.1).isSome)=true):closureFor sc env=pure (qm sc env):=by
 unfold closureFor qm;dsimp only;rw[uh (g:=jD env) sc.names [] (fun y hy c=>?_)]
 ·rfl
 obtain⟨n,k⟩:=y;have a:=oY.mp h _ hy;dsimp only;unfold jD;dsimp only;cases hk:(k==NameKind.free) with
 | false=>simp
 | true=>
  have hk':k=.free:=beq_iff_eq.mp hk;subst hk';have a':(env.cells.lookup n).isSome=true:=by simpa using a
  obtain⟨c',hc'⟩:=Lg.mp a';simp[cellOf,hc']
theorem nG{sc:Scope}(h:(sc.names.all fun y=>y.2 != .local || sc.names.lookup y.1==some .local)=true):∀y∈sc.names,y.2=.local->sc.names.lookup y.1=some .local:=fun y hy e=>by
 have a:=oY.mp h y hy;rw[e] at a;simpa using a
theorem uq.Xp{X:Cx}{x:Str}{sc:Scope}(k: ~~~(sc.kind=.function))(n: autoParam ((sc.names.all fun y=>y.2 != .cell&&y.2 != .free)=true) zh._auto_1)(l: autoParam ((sc.names.all fun y=>y.2 != .local || sc.names.lookup y.1==some .local)=true) zh._auto_1):uq X [x] [] sc:=by
 have n':∀y∈sc.names,y.2≠.cell/\y.2≠.free:=fun y hy=>by have:=oY.mp n y hy; simpa using this
 have al:(sc.names.all fun y=>y.2 != .free || (X.env.cells.lookup y.1).isSome)=true:=oY.mpr fun y hy=>by simp[(n' y hy).2]
 exact⟨k,fun y hy=>(n' y hy).1,nG l,jC al,al,rfl,fun i j h=>by simp at h,fun y h=>by simp at h⟩
theorem uq.mk1{X:Cx}{x y:Str}{sc:Scope}{j:Nat}(hj: ~~~(X.N[j]?=some y))(k: ~~~(sc.kind=.function))(n: autoParam ((sc.names.all fun y=>y.2 != .cell)=true) zh._auto_1)
  (l: autoParam ((sc.names.all fun y=>y.2 != .local || sc.names.lookup y.1==some .local)=true) zh._auto_1) (al: ~~~((sc.names.all fun y=>y.2 != .free || (X.env.cells.lookup y.1).isSome)=true))
  (k1: ~~~(X.env.kindOf y=some .cell)) (k2: ~~~(sc.names.lookup y=some .free)):uq X [x,y] [j] sc:=by
 have n':∀y∈sc.names,y.2≠.cell:=fun y hy=>by have:=oY.mp n y hy; simpa using this
 refine⟨k,n',nG l,jC al,al,rfl,fun i j' h=>?_,fun z h=>?_⟩
 ·cases i with
  | zero=>simp at h; subst h; exact hj.symm
  | succ i=>simp at h
 ·have e:z=y:=by simpa using h
  subst e; exact⟨k1,k2⟩
theorem uq.mk2{X:Cx}{x y z:Str}{sc:Scope}{j j2:Nat}(hj: ~~~(X.N[j]?=some y))(hj2: ~~~(X.N[j2]?=some z))(k: ~~~(sc.kind=.function))(n: autoParam ((sc.names.all fun y=>y.2 != .cell)=true) zh._auto_1)
  (l: autoParam ((sc.names.all fun y=>y.2 != .local || sc.names.lookup y.1==some .local)=true) zh._auto_1) (al: ~~~((sc.names.all fun y=>y.2 != .free || (X.env.cells.lookup y.1).isSome)=true))
  (k1: ~~~(X.env.kindOf y=some .cell)) (k2: ~~~(sc.names.lookup y=some .free)) (k3: ~~~(X.env.kindOf z=some .cell)) (k4: ~~~(sc.names.lookup z=some .free)):uq X [x,y,z] [j,j2] sc:=by
 have n':∀y∈sc.names,y.2≠.cell:=fun y hy=>by have:=oY.mp n y hy; simpa using this
 refine⟨k,n',nG l,jC al,al,rfl,fun i j' h=>?_,fun v h=>?_⟩
 ·match i,h with
  | 0,h=>simp at h; subst h; exact hj.symm
  | 1,h=>simp at h; subst h; exact hj2.symm
  | i+2,h=>simp at h
 ·have e:v=y\/v=z:=by simpa using h
  rcases e with e | e
  ·subst e; exact⟨k1,k2⟩
  ·subst e; exact⟨k3,k4⟩
def bJ:Expr->Bool
 | .Starred _ _=>false
 | _=>true
theorem bU{env:Env}{e:Expr}{es:List Expr}(h:bJ e=true):starEach (e::es) env=(false,eval e env)::starEach es env:=by
 cases e <;> first | rfl | exact absurd h (by simp[bJ])
theorem b7{env:Env}{pos:Pos}:∀{es:List Expr},es.all bJ=true->(backTo pos (starEach es env)).any (·.1)=false
 | [],_=>rfl
 | e::es,h=>by
  have h':bJ e=true/\es.all bJ=true:=by simpa using h
  rw[bU h'.1];show(false || (backTo pos (starEach es env)).any (·.1))=false;rw[b7 h'.2]; rfl
section
variable{X:Cx}{x:Str}{p pos:Pos}{e:Expr}{es:List Expr}{te:TE}{t:TA}{id T:String}{r:List V->Hp->VK->Prop}
theorem ao(ha:PE X e te)(hr:PA X es t)(h: ~~~(bJ e=true)):PA X (e::es) (pH te t):=Tu ha hr (bU h)
theorem pf{k:Nat}{ps:List Str}{sp:Sp}(c:Ct X.prog X.w X.K X.mg X.base k x ps sp)(hr:dR k X.A)(ha:PA X (e::es) t)(hg: ~~~(Gl X x))(hdb:((x==("__debug__" : Str))=false)⁻¹)(h1: ~~~(bJ e=true))(h2: ~~~(es.all bJ=true)) :
  PE X (.Call (.Name x p) (e::es) [] pos) (mZ sp [] E0 t):=aaz c hr ha hg hdb (bU h1) (b7 h2)
theorem pb(hc:cJ X (.builtin id) r)(hm:X.mg x=none)(hv:bootBuiltins x=some (.builtin id))(ha:PA X (e::es) t)(hg: ~~~(Gl X x))(hn:(x ≠ "__name__")⁻¹)(hdb:((x==("__debug__" : Str))=false)⁻¹)
  (h1: ~~~(bJ e=true)) (h2: ~~~(es.all bJ=true)):PE X (.Call (.Name x p) (e::es) [] pos) (YF r t):=PN hc hg hm hv ha hn hdb (bU h1) (b7 h2)
theorem pt(hc:cJ X (.type T) r)(hm:X.mg x=none)(hv:bootBuiltins x=some (.type T))(ha:PA X (e::es) t)(hg: ~~~(Gl X x))(hn:(x ≠ "__name__")⁻¹)(hdb:((x==("__debug__" : Str))=false)⁻¹)
  (h1: ~~~(bJ e=true)) (h2: ~~~(es.all bJ=true)):PE X (.Call (.Name x p) (e::es) [] pos) (YF r t):=Li hc hg hm hv ha hn hdb (bU h1) (b7 h2)
end
end _L
namespace HT
open PySem PyProof.Rows
section
variable{prog:AC}{w:World}{A:Around}{E:AA->AB->Prop}{s:AB}
theorem rm{t sl:Addr}{items:Array AA}{vl vu:AA}{lo hi:Option Int}{Q:AA->AB->Prop}(ht:IsTup s.heap t items)(hs:s.heap.IsSliceOf sl vl vu .none)(pl:IsPart vl lo)(pu:IsPart vu hi)
  (hw1:fV items.size 0 lo=0) (hw2:fV items.size items.size hi=items.size) (h:Q (.ref t) s):wpAny (model prog w) A (getItem (.ref t) (.ref sl)) Q E s:=by
 obtain⟨os,hos,hcs,hds⟩:=id hs;have tyS:s.TypeIs (.ref sl) "slice" := ⟨os,hos,hcs⟩;unfold getItem
 try with_reducible refine kY ?_
 first | refine aL (bL ?_) | skip
 refine aL (wpAny_sequenceKey ht.typeIs ⋯ ?_)
 refine aL (yc (name:=Str.ofString "__getitem__") ht.typeIs PyProof.Rows.slot_tuple_getitem (sO PyProof.Rows.slot_tuple_getitem ht.typeIs entry_tuple_getitem ?_ (args_tuple_getitem _ _)));show wpAny _ _ (Builtin.Tuple.tupleItemsOf (.ref t) >>= _) _ _ s;refine aL (tupleItemsOf_ ht ?_);refine aL (Bd tyS ?_);rw[aV ⋯]
 refine aL (kW hs pl pu ?_)
 have yes:(((fV items.size 0 lo:Nat):Int)==0&&(1:Int)==1&&(fV items.size items.size hi-fV items.size 0 lo)==items.size)=true:=by
  rw[hw1,hw2]; simp
 show wpAny _ _ (if(((fV items.size 0 lo:Nat):Int)==0&&(1:Int)==1&&(fV items.size items.size hi-fV items.size 0 lo)==items.size)=true then _ else _) _ _ s
 rw[aV yes]
 have ex:∀{R:Bool->AB->Prop},R true s->wpAny (model prog w) A.in1 (Builtin.Tuple.tupleIsExact (.ref t)) R E s:=fun {R} q=>by
  unfold Builtin.Tuple.tupleIsExact;refine aL (Bd ht.typeIs (bL ?_));rw[beq_self_eq_true];exact q
 refine aL (ex ?_);rw[aV rfl];exact aL (ur (bL ⟨_,rfl,bL h⟩))
end
end HT
namespace _L
open PySem PySem.Spec PyProof.Rows
theorem bN:bootBuiltins "isinstance" = some (.builtin "isinstance"):=by decide +kernel
theorem dq:bootBuiltins "len" = some (.builtin "len"):=by decide +kernel
theorem tO:bootBuiltins "all" = some (.builtin "all"):=by decide +kernel
theorem n_:bootBuiltins "sum" = some (.builtin "sum"):=by decide +kernel
theorem Rh:bootBuiltins "abs" = some (.builtin "abs"):=by decide +kernel
theorem mq:bootBuiltins "min" = some (.builtin "min"):=by decide +kernel
theorem tM:bootBuiltins "max" = some (.builtin "max"):=by decide +kernel
theorem Ib:bootBuiltins "int" = some (.type "int"):=by decide +kernel
theorem CQ:bootBuiltins "str" = some (.type "str"):=by decide +kernel
theorem U5:bootBuiltins "bool" = some (.type "bool"):=by decide +kernel
theorem fP:bootBuiltins "list" = some (.type "list"):=by decide +kernel
theorem jH:bootBuiltins "tuple" = some (.type "tuple"):=by decide +kernel
theorem vm:bootBuiltins "dict" = some (.type "dict"):=by decide +kernel
theorem Rg:bootBuiltins "range" = some (.type "range"):=by decide +kernel
theorem rM:bootBuiltins "enumerate" = some (.type "enumerate"):=by decide +kernel
theorem Ia:bootBuiltins "zip" = some (.type "zip"):=by decide +kernel
section
variable{X:Cx}
theorem pty{x:Str}{T:String}{pos:Pos}(hg:Gl X x)(hm:X.mg x=none)(hv:bootBuiltins x=some (.type T))(hn:(x ≠ "__name__")⁻¹)(hd:((x==("__debug__" : Str))=false)⁻¹):PE X (.Name x pos) (tC (.ty T)):=
 Tr (v:=.ty T) hg hm hv rfl hn hd
theorem Gk.of{T:String}{g:PyData->Bool}{v:V}{d:PyData}{H:Hp}{Q:VK}(h:At H d v)(q:Q (.bl (g d)) H):GZ T g [v,.ty T] H Q:=⟨v,d,rfl,h,q⟩
def ac3(K:Frag):List V->Hp->VK->Prop:=fun vs H Q=>∃(p:Addr)(ys:List V),vs=[.ref p]/\(cz K H p ys\/dU K H p ys)/\Q (.int ys.length) H
theorem cu{K:Frag}(hK:X.K=K):cJ X (.builtin "len") (ac3 K):=by
 subst hK;exact CJ
def acX:V->Option Int->Option Int->Hp->VK->Prop:=fun x lo hi H Q=>∃(a:Addr)(xs:List V),x=.ref a/\H a=some (.tup xs)/\∀p H',aJ H H'->H' p=some (.tup (qj xs lo hi))->Q (.ref p) H'
theorem jN:Yl X acX:=by
 symm;intro x v vl vu lo hi sl Q I rx hs pl pu h;obtain⟨a,xs,e,hx,q⟩:=h;by_cases hw:HT.fV xs.length 0 lo=0/\HT.fV xs.length xs.length hi=xs.length
 ·subst e;cases rx;obtain⟨its,r,ht,hz⟩:=I.tuple (dU.of (K:=X.K) hx);have hlen:its.toArray.size=xs.length:=by rw[d_]; exact r.length.symm
  refine⟨"tuple",_,PyProof.Rows.slot_tuple_getitem.lookup,ht.typeIs,?_⟩;refine HT.rm ht hs pl pu (by rw[hlen]; exact hw.1) (by rw[hlen]; exact hw.2) ⟨.ref a,H,I,rfl,q a H (aJ.refl H) ?_⟩
  rw[hx];unfold qj;rw[hw.1,hw.2,List.drop_zero,Nat.sub_zero,mV]
 ·exact Ww ae s σ H x v vl vu lo hi sl Q I rx hs pl pu ⟨a,xs,e,dU.of hx,hw,fun p hp=>q p _ (aM hp _) aB⟩
def aau:R2:=fun x y H Q=>∃(a b:Addr)(xs ys:List V),x=.ref a/\y=.ref b/\H a=some (.tup xs)/\H b=some (.tup ys)/\xs.length+ys.length<=sizeLine/\∀p H',aJ H H'->H' p=some (.tup (xs++ys))->Q (.ref p) H'
theorem uY:mX X (binaryOp .Add) aau:=by
 symm;intro x y v u Q I rx ry h;obtain⟨a,b,xs,ys,e1,e2,ha,hb,hz,q⟩:=h;by_cases hx:xs=[]
 ·subst hx e1 e2;cases rx;cases ry;obtain⟨its,r1,p1,_⟩:=I.tuple (dU.of (K:=X.K) ha);obtain⟨its2,r2,p2,_⟩:=I.tuple (dU.of (K:=X.K) hb);cases r1;obtain⟨⟨cls,dd,data,sl⟩,ho,hc,n,hd⟩:=id p1;obtain⟨⟨cls2,dd2,data2,sl2⟩,ho2,hc2,n2,hd2⟩:=id p2;simp only at hc hd hc2 hd2;subst hc hd hc2 hd2;exact concat_meets ⟨_,ho,rfl⟩ ⟨_,ho2,rfl⟩ noFill_tuple_add seq_tuple_add PySem.F.slot_tuple_add PySem.F.entry_tuple_add (PySem.F.args_tuple_add_2 _ _) (tuple_addW0 a b _ _ n n2 dd dd2 sl sl2 (by rfl)) ⟨ho,ho2,⟨.ref b,H,I,rfl,q b H (aJ.refl H) hb⟩⟩
 ·refine Tz ae s σ H x y v u Q I rx ry ⟨a,b,xs,ys,e1,e2,dU.of ha,dU.of hb,hx,hz,fun z=>?_,fun _ p hp=>q p _ (aM hp _) aB⟩;subst z;exact q a H (aJ.refl H) (by rw[ha,oX])
def DP:R2:=fun x y H Q=>∃(p:Addr)(xs:List V)(i:Int)(v:V),x=.ref p/\y=.int i/\(H p=some (.lst xs)\/H p=some (.tup xs))/\Dj xs i=some v/\Q v H
theorem bh:Nq X DP:=by
 have h:=(JZ (X:=X)).or XH;refine .mk ?_;intro a b ae s σ H x y v u Q I rx ry q;obtain⟨p,xs,i,z,e1,e2,hp,ha,q⟩:=q;intro hs;refine h a b ae s σ H x y v u Q I rx ry ?_ hs;rcases hp with hp | hp
 ·exact .inl ⟨p,xs,i,z,e1,e2,cz.of hp,ha,q⟩
 ·exact .inr ⟨p,xs,i,z,e1,e2,dU.of hp,ha,q⟩
theorem Ix.tup{a:Addr}{xs:List V}{i:Int}{v:V}{H:Hp}{Q:VK}(h:H a=some (.tup xs))(e:Dj xs i=some v)(q:Q v H):DP (.ref a) (.int i) H Q:=⟨a,xs,i,v,rfl,rfl,.inr h,e,q⟩
theorem Ix.lst{a:Addr}{xs:List V}{i:Int}{v:V}{H:Hp}{Q:VK}(h:H a=some (.lst xs))(e:Dj xs i=some v)(q:Q v H):DP (.ref a) (.int i) H Q:=⟨a,xs,i,v,rfl,rfl,.inl h,e,q⟩
theorem Ye{js:List Nat}{ta:TA}{te:TE}{σ:St}{H:Hp}{Q:VK}{n:Nat}(hl:∀R:List V->Hp->Prop,R [.int n] H->ta σ H R)(hn:n<=1000000)
  (h:∀acc,H acc=none->∃Pv:Nat->List V->Hp->Prop,Pv 0 [] (upd H acc (.lst [])) /\
   (∀i ys H',i<n->Pv i ys H'->te (some (.int (0+(i:Nat)))::bW js σ) H' fun y cQ=>cQ acc=some (.lst ys)/\ys.length<sizeLine/\Pv (i+1) (ys++[y]) (upd cQ acc (.lst (ys++[y])))) /\
   ∀ys H',Pv n ys H'->Q (.ref acc) H'):iu js (Fv ta) te σ H Q:=by
 refine hl _ ⟨n,rfl,∅,∅,fun acc hacc=>?_⟩
 obtain⟨Pv,h0,hs,hd⟩:=h acc hacc;have en:((n:Int)).toNat=n:=qN n;rw[en];refine⟨fun i m ys H'=>m=n-i/\i<=n/\Pv i ys H',⟨n,rfl,eV _,h0⟩,?_⟩;rintro i m ys H2 ⟨rfl,hi,p⟩;by_cases hlt:i<n
 ·refine .inr ⟨hlt,fun x H3 y=>?_⟩;obtain⟨e,y⟩:=y;subst e y;have Vf:=hs i ys _ hlt p
  have fe:(fun(y:V)(cQ:Hp)=>cQ acc=some (.lst ys)/\ys.length<sizeLine/\Pv (i+1) (ys++[y]) (upd cQ acc (.lst (ys++[y]))))=fun y H4=>H4 acc=some (.lst ys)/\ys.length<sizeLine/\∃m',m'<n-i/\(m'=n-(i+1)/\i+1<=n/\Pv (i+1) (ys++[y]) (upd H4 acc (.lst (ys++[y])))):=by
   funext y cQ
   refine propext ⟨fun⟨a,b,c⟩=>⟨a,b,_,∅,rfl,hlt,c⟩,fun⟨a,b,m',_,_,_,c⟩=>⟨a,b,c⟩⟩
  rw[fe] at Vf;exact Vf
 ·have e:i=n:=by omega
  subst e;exact .inl ⟨bc _,hd ys _ p⟩
theorem oO:cJ X (.type "tuple") (fun vs H Q=>∃(p:Addr)(ys:List V),vs=[.ref p]/\H p=some (.lst ys)/\∀l,H l=none->Q (.ref l) (upd H l (.tup ys))):=by
 symm;intro vs us Q I r h;obtain⟨p,ys,e,hp,q⟩:=h;exact yz ae s σ H vs us Q I r ⟨p,ys,e,.inl ⟨cz.of hp,q⟩⟩
theorem MK:cJ X (.type "list") (fun vs H Q=>∃(p:Addr)(ys:List V),vs=[.ref p]/\H p=some (.tup ys)/\∀l,H l=none->Q (.ref l) (upd H l (.lst ys))):=by
 symm;intro vs us Q I r h;obtain⟨p,ys,e,hp,q⟩:=h;exact rE ae s σ H vs us Q I r ⟨p,ys,e,.inr (dU.of hp),q⟩
def Vn(t:TA):TE:=fun σ H Q=>t σ H fun xs H1=>xs.length<=sizeLine/\∀p H',H1 p=none->aJ H1 H'->H' p=some (.lst xs)->Q (.ref p) H'
def Od(t:TA):TE:=fun σ H Q=>t σ H fun xs H1=>xs.length<=sizeLine/\∀p H',H1 p=none->aJ H1 H'->H' p=some (.tup xs)->Q (.ref p) H'
theorem cG{es:List Expr}{t:TA}{pos:Pos}(h:PA X es t):PE X (.List es pos) (Vn t):=by
 symm;intro Q I hq;refine wpAny_List_spliced (cA (h pos ae s σ H _ I hq) fun us s1 ⟨xs,H1,I1,r,z,q⟩=>⟨by rw[<- r.length]; exact z,?_⟩)
 have fr:H1 s1.heap.objs.size=none:=I1.hok.fresh (bc _);exact⟨.ref s1.heap.objs.size,upd H1 s1.heap.objs.size (.lst xs),I1.laid (t':=s1.toks) (fun b u e=>cU _ e) (bc _) ⟨z,us,0,r,cI _ rfl⟩,rfl,q _ _ fr (aM fr _) aB⟩
theorem bw{es:List Expr}{t:TA}{x1}{pos:Pos}(h:PA X es t):PE X (.Tuple es x1 pos) (Od t):=by
 symm;intro Q I hq;refine wpAny_Tuple_spliced (cA (h pos ae s σ H _ I hq) fun us s1 ⟨xs,H1,I1,r,z,q⟩=>⟨by rw[<- r.length]; exact z,?_⟩)
 have fr:H1 s1.heap.objs.size=none:=I1.hok.fresh (bc _);exact⟨.ref s1.heap.objs.size,upd H1 s1.heap.objs.size (.tup xs),I1.laid (t':=s1.toks) (fun b u e=>cU _ e) (bc _) ⟨z,us,r,⟨_,cI _ rfl,rfl,_,rfl⟩⟩,rfl,q _ _ fr (aM fr _) aB⟩
def hid(a:Addr)(H:Hp):Hp:=fun b=>if b=a then none else H b
theorem cV{a b:Addr}{H:Hp}(h:b≠a):hid a H b=H b:=aN h
theorem nP{a:Addr}{H:Hp}:hid a H a=none:=aV rfl
theorem jz{a b:Addr}{H:Hp}{o:HO}(h:hid a H b=some o):b≠a/\H b=some o:=by
 by_cases e:b=a
 ·subst e; rw[nP] at h; cases h
 ·exact⟨e,by rw[cV e] at h; exact h⟩
theorem vf{a:Addr}{H:Hp}{o:HO}:hid a (upd H a o)=hid a H:=by
 funext b
 by_cases e:b=a
 ·subst e; rw[nP,nP]
 ·rw[cV e,cV e,aC e]
theorem jy{a p:Addr}{H:Hp}{o:HO}(h:p≠a):hid a (upd H p o)=upd (hid a H) p o:=by
 funext b
 by_cases e:b=a
 ·subst e; rw[nP,aC (Ne.symm h),nP]
 ·rw[cV e];by_cases e':b=p
  ·subst e'; rw[aB,aB]
  ·rw[aC e',aC e',cV e]
theorem Cg{a:Addr}{H:Hp}:aJ (hid a H) H:=fun b o h=>(jz h).2
def SX(a:Addr)(H H':Hp):Prop:=aJ (hid a H) (hid a H')
theorem SX.refl(a:Addr)(H:Hp):SX a H H:=aJ.refl _
theorem SX.trans{a:Addr}{H H1 H2:Hp}(x:SX a H H1)(y:SX a H1 H2):SX a H H2:=aJ.trans x y
theorem SX.of{a:Addr}{H H':Hp}(s:aJ H H'):SX a H H':=fun b o h=>by
 obtain⟨n,e⟩:=jz h;rw[cV n]; exact s _ _ e
theorem SX.upd{a:Addr}{H:Hp}{o:HO}:SX a H (upd H a o):=by unfold SX; rw[vf]; exact aJ.refl _
theorem SX.get{a b:Addr}{H H':Hp}{o:HO}(s:SX a H H')(n:b≠a)(h:H b=some o):H' b=some o:=by
 have:=s b o (by rw[cV n]; exact h)
 exact(jz this).2
def Tp(H:Hp)(a:Addr)(n:Nat):Prop:=∃x y z:Int,H a=some (.lst [.int x,.int y,.int z])/\0<=x/\0<=y/\y<4611686018427387904/\0<=z/\z<=n
theorem Tp.mono{H:Hp}{a:Addr}{n m:Nat}(h:Tp H a n)(l:n<=m):Tp H a m:=by
 obtain⟨x,y,z,e,h1,h2,h3,h4,h5⟩:=h;exact⟨x,y,z,e,h1,h2,h3,h4,∅⟩
theorem Tp.same{H H':Hp}{a:Addr}{n:Nat}(h:Tp H a n)(s:aJ H H'):Tp H' a n:=by
 obtain⟨x,y,z,e,r⟩:=h;exact⟨x,y,z,s _ _ e,r⟩
theorem Tp.ne{H:Hp}{a b:Addr}{n:Nat}(h:Tp H a n)(e:H b=none):b≠a:=by
 obtain⟨x,y,z,q,_⟩:=h;intro z; subst z; rw[e] at q; cases q
theorem Tp.neT{H:Hp}{a b:Addr}{n:Nat}{xs:List V}(h:Tp H a n)(e:H b=some (.tup xs)):b≠a:=by
 obtain⟨x,y,z,q,_⟩:=h;intro z; subst z; rw[e] at q; cases q
theorem aJ.hid{a:Addr}{H H':Hp}(s:aJ H H'):aJ (_L.hid a H) (_L.hid a H'):=fun b o h=>by
 obtain⟨n,e⟩:=jz h;rw[cV n]; exact s _ _ e
theorem SX.gB{a p:Addr}{H H':Hp}{o:HO}(s:SX a H H')(hp:H p=none)(pa:p≠a):SX a H (_L.upd H' p o):=fun b u h=>by
 obtain⟨n,e⟩:=jz h;rw[jy pa,aC (cC e hp)];exact s b u h
theorem Tp.gB{H:Hp}{a p:Addr}{n:Nat}{o:HO}(t:Tp H a n)(pa:p≠a):Tp (_L.upd H p o) a n:=by
 obtain⟨x,y,z,e,r⟩:=t;exact⟨x,y,z,by rw[aC (Ne.symm pa)]; exact e,r⟩
def RD(K:Frag)(H:Hp)(p:Addr)(xs:List V):Prop:=(∃o,H p=some (.kE o (.lst xs))) \/
 ∃(o:Obj)(its:Array AA)(n:Nat),K.lookup p=some o/\o.cls=.type "list" /\ o.dict=none/\o.data=.seq its n/\its.size<=sizeLine/\Vals xs its.toList
theorem RD.sq{K:Frag}{H:Hp}{p:Addr}{xs:List V}(h:RD K H p xs):cz K H p xs:=by
 rcases h with⟨o,h⟩ | h
 ·exact .inl (.inr ⟨o,h⟩)
 ·exact .inr h
theorem RD.of{K:Frag}{H:Hp}{p:Addr}{xs:List V}(h:cz K H p xs)(o:Only H):RD K H p xs:=by
 rcases h with(h | h) | h
 ·rcases o p with e | ⟨ob,ys,e⟩
  ·rw[e] at h; cases h
  ·rw[e] at h; cases h
 ·exact .inl h
 ·exact .inr h
theorem RD.same{K:Frag}{H H':Hp}{p:Addr}{xs:List V}(h:RD K H p xs)(s:aJ H H'):RD K H' p xs:=by
 rcases h with⟨o,h⟩ | h
 ·exact .inl ⟨o,s _ _ h⟩
 ·exact .inr h
end
mutual
def fine(b:Nat):PyData->Bool
 | .none=>true
 | .bool _=>true
 | .int i=>decide (i.natAbs<=b)
 | .str x=>decide (x.length<=40)&&x.cps.toList.all fun c=>decide (c<4294967296)
 | .tuple ds=>Cr b ds
 | .list ds=>Cr b ds
 | .dict _=>false
def Cr(b:Nat):List PyData->Bool
 | []=>true
 | d::ds=>fine b d&&Cr b ds
end
mutual
def aaP:PyData->Nat
 | .tuple ds=>uZ ds+3
 | .list ds=>uZ ds+3
 | .dict _=>500
 | .none=>500
 | .bool _=>500
 | .int _=>500
 | .str _=>500
def uZ:List PyData->Nat
 | []=>0
 | d::ds=>aaP d+2+uZ ds
end
structure ajY(b D M:Nat)(d:PyData):Prop where
 f:fine b d=true
 dp:d.depth<=D
 m:aaP d<=M
structure acv(b D M:Nat)(ds:List PyData):Prop where
 f:∀d∈ds,fine b d=true
 dp:∀d∈ds,d.depth<=D
 m:uZ ds<=M
section
variable{X:Cx}
end
theorem xG{xs:List V}{i:Int}(h:0<=i):qj xs none (some i)=xs.take i.toNat:=by
 obtain⟨j,rfl⟩:∃j:Nat,i=j:=⟨i.toNat,∅⟩
 unfold qj;rw[HT.DK,HT.uT,List.drop_zero,Nat.sub_zero,qN];by_cases q:j<=xs.length
 ·rw[Ek q]
 ·rw[Nat.min_eq_right ∅,mV,Jt ∅]
theorem lA{xs:List V}{i:Int}(h:0<=i):qj xs (some i) none=xs.drop i.toNat:=by
 obtain⟨j,rfl⟩:∃j:Nat,i=j:=⟨i.toNat,∅⟩
 unfold qj;rw[HT.DK,HT.uT,qN];by_cases q:j<=xs.length
 ·rw[Ek q,Jt (by rw[uw]; omega)]
 ·rw[Nat.min_eq_right ∅,xZ,List.take_nil,List.drop_of_length_le ∅]
section
variable{X:Cx}
theorem P0(hu:X.A.units+64<cLine):mX X (compareOp .Eq) (fun x y H Q=>∃d e,At H d x/\At H e y/\d.hasDict=false/\e.hasDict=false/\d.canLay0=true/\e.canLay0=true/\d.depth<=60/\Q (.bl (PyData.eqv d e)) H):=by
 symm;intro x y v u Q I rx ry h;obtain⟨d,e,hd,he,n1,n2,c1,c2,dp,q⟩:=h;obtain⟨as,r1⟩:=wg I.hok _ _ _ hd rx n1;obtain⟨bs,r2⟩:=wg I.hok _ _ _ he ry n2;exact SeqAt.compareEq_reads r1 r2 c1 c2 (by have:=Nat.min_le_left d.depth e.depth; omega) (bR I q rfl)
end
def FK(g:TG)(tb:TS)(D:Ends)(σ:St)(vs:List V)(H1:Hp):Prop:=∃j:Int,vs=[.int j]/\-(2 ^ 62)<=j/\j<2 ^ 62/\∃W:Nat->Nat->St->Hp->Prop,(∃m,W 0 m σ H1)/\∀i m σ H,W i m σ H ->
 ((Nr 0 j.toNat).stop i H/\D.nx σ H)\/((Nr 0 j.toNat).go i H/\∃N:St->Hp->Prop,(∀σ' H',N σ' H'->∃m',m'<m/\W (i+1) m' σ' H')/\∀x H',(Nr 0 j.toNat).Dm i H x H'->g x σ H' fun σ2 H2=>tb { D with nx:=N,ct:=N,bk:=D.nx } σ2 H2)
theorem vB{ta:TA}{g:TG}{tb:TS}{D:Ends}{σ:St}{H:Hp}:Dv (Fv ta) g tb D σ H=ta σ H (FK g tb D σ):=rfl
theorem FK.of{g:TG}{tb:TS}{D:Ends}{σ:St}{H:Hp}{n:Nat}{i:Int}(ei:i=n)(hn:n<=1000000)(Pv:Nat->St->Hp->Prop)(h0:Pv 0 σ H)
  (hs:∀i σ H,i<n->Pv i σ H->g (.int (0+(i:Nat))) σ H fun σ2 H2=>tb { D with nx:=Pv (i+1),ct:=Pv (i+1),bk:=D.nx } σ2 H2) (hd:∀σ H,Pv n σ H->D.nx σ H):FK g tb D σ [.int i] H:=by
 subst ei;refine⟨n,rfl,∅,∅,?_⟩
 rw[qN];exact Mq Pv h0 hs hd
theorem FK.ofN{g:TG}{tb:TS}{D:Ends}{σ:St}{H:Hp}{n:Nat}{i:Int}(ei:i=n)(hn:n<=1000000)(Pv:Nat->St->Hp->Prop)(h0:Pv 0 σ H)
  (hs:∀i σ H,i<n->Pv i σ H->∀N:St->Hp->Prop,(∀σ' H',Pv (i+1) σ' H'->N σ' H')->g (.int (0+(i:Nat))) σ H fun σ2 H2=>tb { D with nx:=N,ct:=N,bk:=D.nx } σ2 H2) (hd:∀σ H,Pv n σ H->D.nx σ H):FK g tb D σ [.int i] H:=FK.of ei hn Pv h0 (fun i σ H hi p=>hs i σ H hi p _ fun _ _ h=>h) hd
def TK(K:Frag)(g:TG)(tb:TS)(D:Ends)(σ:St)(x:V)(H1:Hp):Prop:=∃a,x=.ref a/\(∃xs,dU K H1 a xs)/\∃W:Nat->Nat->St->Hp->Prop,(∃m,W 0 m σ H1)/\∀i m σ H,W i m σ H ->
 ((V_ K a).stop i H/\D.nx σ H)\/((V_ K a).go i H/\∃N:St->Hp->Prop,(∀σ' H',N σ' H'->∃m',m'<m/\W (i+1) m' σ' H')/\∀x H',(V_ K a).Dm i H x H'->g x σ H' fun σ2 H2=>tb { D with nx:=N,ct:=N,bk:=D.nx } σ2 H2)
theorem Oj{K:Frag}{tl:TE}{g:TG}{tb:TS}{D:Ends}{σ:St}{H:Hp}:Dv (Ft K tl) g tb D σ H=tl σ H (TK K g tb D σ):=rfl
theorem TK.of{K:Frag}{g:TG}{tb:TS}{D:Ends}{σ:St}{H:Hp}{a:Addr}{xs:List V}(ha:H a=some (.tup xs))(Pv:Nat->St->Hp->Prop)(h0:Pv 0 σ H)(hl:∀i σ H',i<=xs.length->Pv i σ H'->H' a=some (.tup xs))
  (hs:∀i x σ H,xs[i]?=some x->Pv i σ H->g x σ H fun σ2 H2=>tb { D with nx:=Pv (i+1),ct:=Pv (i+1),bk:=D.nx } σ2 H2) (hd:∀σ H,Pv xs.length σ H->D.nx σ H):TK K g tb D σ (.ref a) H:=
 ⟨a,rfl,⟨xs,dU.of ha⟩,Uv (xs:=xs) Pv h0 (fun i σ H' hi p=>dU.of (hl i σ H' hi p)) hs hd⟩
def CK(js:List Nat)(te:TE)(σ:St)(Q:VK)(vs:List V)(H1:Hp):Prop:=∃j:Int,vs=[.int j]/\-(2 ^ 62)<=j/\j<2 ^ 62/\∀acc,H1 acc=none->∃W:Nat->Nat->List V->Hp->Prop,(∃m,W 0 m [] (upd H1 acc (.lst [])))/\∀i m ys H2,W i m ys H2 ->
 ((Nr 0 j.toNat).stop i H2/\Q (.ref acc) H2)\/((Nr 0 j.toNat).go i H2/\∀x H3,(Nr 0 j.toNat).Dm i H2 x H3->te (some x::bW js σ) H3 fun y H4=>H4 acc=some (.lst ys)/\ys.length<sizeLine/\∃m',m'<m/\W (i+1) m' (ys++[y]) (upd H4 acc (.lst (ys++[y]))))
theorem rP{js:List Nat}{ta:TA}{te:TE}{σ:St}{H:Hp}{Q:VK}:iu js (Fv ta) te σ H Q=ta σ H (CK js te σ Q):=rfl
theorem CK.of{js:List Nat}{te:TE}{σ:St}{H:Hp}{Q:VK}{n:Nat}{i:Int}(ei:i=n)(hn:n<=1000000)
  (h:∀acc,H acc=none->∃Pv:Nat->List V->Hp->Prop,Pv 0 [] (upd H acc (.lst [])) /\
   (∀i ys H',i<n->Pv i ys H'->te (some (.int (0+(i:Nat)))::bW js σ) H' fun y cQ=>cQ acc=some (.lst ys)/\ys.length<sizeLine/\Pv (i+1) (ys++[y]) (upd cQ acc (.lst (ys++[y])))) /\
   ∀ys H',Pv n ys H'->Q (.ref acc) H'):CK js te σ Q [.int i] H:=by
 subst ei;have:=Ye (ta:=fun _ H R=>R [.int n] H) (σ:=σ) (H:=H) (Q:=Q) (js:=js) (te:=te) (n:=n) (fun R hR=>hR) hn h;exact this
def Gs(mg:Str->Option AA)(x:Str)(i:Str):Prop:=∃t,mg x=some (.str i t)
theorem Br{X:Cx}{x:Str}{i:Str}{pos:Pos}(h:Gs X.mg x i)(hg: ~~~(Gl X x))(hd:((x==("__debug__" : Str))=false)⁻¹):PE X (.Name x pos) (tC (.str i)):=by
 obtain⟨t,ht⟩:=h;exact Bu hg ht ⟨t,rfl⟩ hd
def oZ(b:Int):List Int->Int
 | []=>b
 | x::r=>oZ (if x>b then x else b) r
section
variable{prog:AC}{w:World}{A:Around}{R:Result->AB->Prop}{It:Addr}{fp wr:List Addr}{n:Nat}{Pv:Nat->AA->Prop}{St:Nat->Heap->Prop}
theorem Qi{ns:List Int}(W:Walks prog w A.in1 It fp wr n Pv St)(hn:n=ns.length)(hv:∀i v,Pv i v->∃t,v=.int (ns.getD i 0) t)(C:Addr)(nf:C∉fp)(d:AA):∀(m j:Nat)(z:AB)(best:Int)(tb:Tok)(c:Nat),ns.length-j=m->j<=ns.length->St j z.heap ->
  z.heap.get? C=some ⟨.type "list",none,.seq #[.int best tb,.int best tb] c,#[]⟩ ->
  (∀t h' tk,(∀b o,b∉wr->b≠C->z.heap.get? b=some o->h'.get? b=some o)->R (.ok (.ret (.int (oZ best (ns.drop j)) t))) { z with heap:=h',toks:=tk }) ->
  codeAny (model prog w) A (.builtin "max.loop" ⟨[.ref It,.none,.ref C],[("default",d)]⟩) R z:=by
 subst hn;have nw:C∉wr:=fun q=>nf (W.sub _ q);have nm:(toString "max" ++ toString ".loop" : String) = "max.loop" := by decide
 intro m
 induction m with
 | zero=>
  intro j z best tb c hm hj st hC fin;have e:j=ns.length:=by omega
  subst e;refine codeAny_builtin PySem.F.entry_max_loop ?_;rw[Around.under_plainId PySem.F.plain_max_loop _];show wpAny _ A.in1 (seqItems? (.ref C) >>= _) _ _ z;refine aL (oW hC rfl ?_);show wpAny _ A.in1 (tryCatch (pyNext (.ref It)) _ >>= _) _ _ z;refine aL (wC (W.done z _ _ st fun h' tk kp=>?_));refine aL (zE (kp C _ nw hC) rfl (aL (tY (bL ?_))));rw[xZ] at fin;exact fin tb _ tk fun b o h1 h2 h3=>(kZ _ _ (Ne.symm h2)).trans (kp b o h1 h3)
 | succ m ih=>
  intro j z best tb c hm hj st hC fin;have lt:j<ns.length:=by omega
  refine codeAny_builtin PySem.F.entry_max_loop ?_;rw[Around.under_plainId PySem.F.plain_max_loop _];show wpAny _ A.in1 (seqItems? (.ref C) >>= _) _ _ z;refine aL (oW hC rfl ?_);show wpAny _ A.in1 (tryCatch (pyNext (.ref It)) _ >>= _) _ _ z;refine aL (wC (W.item j z _ _ lt st fun v h' tk hP st' kp=>?_));obtain⟨t,rfl⟩:=hv j v hP;have hC':=kp C _ nw hC;show wpAny _ A.in1 (tryCatch (holding [_,_] (richCompare .Gt _ (.int best tb) >>= _)) _ >>= _) _ _ _;refine aL (wC (kY (aL (richCompare_gives (op:=.Gt) (typeIs_int _ _ t) (typeIs_int _ _ tb) PySem.F.slot_int_gt PySem.F.entry_int_gt (PySem.F.args_int_gt_2 _ _) (gives_int_gt _ _ t tb) (fun x=>nomatch x) ?_))))
  refine aL (kY (D_ (aL (tY (bL ?_)))))
  have dr:ns.drop j=ns.getD j 0::ns.drop (j+1):=by
   rw[G8 lt,iI,cN lt]; rfl
  rw[dr] at fin;by_cases hb:ns.getD j 0>best
  ·have e1:oZ best (ns.getD j 0::ns.drop (j+1))=oZ (ns.getD j 0) (ns.drop (j+1)):=by rw[oZ,aV hb]
   rw[e1] at fin;rw[mU hb];simp only[if_true];refine aL (zE hC' rfl (aL (tY ?_)));rw[nm];refine bL ⟨plainId_quiet PySem.F.plain_max_loop _,ih (j+1) _ _ t _ ∅ lt (W.frame _ _ _ st' fun b hb o e=>?_) (ux _ hC' rfl) fun t2 h2 tk2 k2=>?_⟩
   ·exact(kZ _ _ (fun q:C=b=>nf (by rw[q]; exact hb))).trans e
   ·exact fin t2 h2 tk2 fun b o h1 h3 e=>k2 b o h1 h3 ((kZ _ _ (Ne.symm h3)).trans (kp b o h1 e))
  ·have e1:oZ best (ns.getD j 0::ns.drop (j+1))=oZ best (ns.drop (j+1)):=by rw[oZ,aN hb]
   rw[e1] at fin;rw[j4 hb];simp only[x_,if_false];refine aL (tY ?_);rw[nm];refine bL ⟨plainId_quiet PySem.F.plain_max_loop _,ih (j+1) _ best tb c ∅ lt st' hC' fun t2 h2 tk2 k2=>?_⟩
   exact fin t2 h2 tk2 fun b o h1 h3 e=>k2 b o h1 h3 (kp b o h1 e)
theorem Lz{ns:List Int}(W:Walks prog w A.in1 It fp wr n Pv St)(hn:n=ns.length)(hv:∀i v,Pv i v->∃t,v=.int (ns.getD i 0) t)(C:Addr)(nf:C∉fp)(d:AA)(z:AB)(c:Nat)(st:St 0 z.heap)
  (hC:z.heap.get? C=some ⟨.type "list",none,.seq #[] c,#[]⟩)
  (f0:ns=[]->∀h' tk,(∀b o,b∉wr->b≠C->z.heap.get? b=some o->h'.get? b=some o)->R (.ok (.ret d)) { z with heap:=h',toks:=tk })
  (f1:∀x r,ns=x::r->∀t h' tk,(∀b o,b∉wr->b≠C->z.heap.get? b=some o->h'.get? b=some o)->R (.ok (.ret (.int (oZ x r) t))) { z with heap:=h',toks:=tk }) :
  codeAny (model prog w) A (.builtin "max.loop" ⟨[.ref It,.none,.ref C],[("default",d)]⟩) R z:=by
 have nw:C∉wr:=fun q=>nf (W.sub _ q);have nm:(toString "max" ++ toString ".loop" : String) = "max.loop" := by decide
 refine codeAny_builtin PySem.F.entry_max_loop ?_;rw[Around.under_plainId PySem.F.plain_max_loop _];show wpAny _ A.in1 (seqItems? (.ref C) >>= _) _ _ z;refine aL (oW hC rfl ?_);show wpAny _ A.in1 (tryCatch (pyNext (.ref It)) _ >>= _) _ _ z;cases ns with
 | nil=>
  subst hn;refine aL (wC (W.done z _ _ st fun h' tk kp=>?_));show wpAny _ A.in1 (rule _ >>= _) _ _ _;exact aL (ur (bL (f0 rfl h' tk fun b o h1 _ e=>kp b o h1 e)))
 | cons x r=>
  refine aL (wC (W.item 0 z _ _ (by rw[hn]; exact Nat.succ_pos _) st fun v h' tk hP st' kp=>?_))
  obtain⟨t,e⟩:=hv 0 v hP;have e:v=.int x t:=e;subst e;have hC':=kp C _ nw hC;show wpAny _ A.in1 (updateSeq C (fun _=>#[Value.int x t,Value.int x t]) >>= _) _ _ _;refine aL (zE hC' rfl ?_);rw[nm];refine bL ⟨plainId_quiet PySem.F.plain_max_loop _,Qi W hn hv C nf d _ 1 _ x t _ rfl (by simp) (W.frame _ _ _ st' fun b hb o e=>?_) (ux _ hC' rfl) fun t2 h2 tk2 k2=>?_⟩
  ·exact(kZ _ _ (fun q:C=b=>nf (by rw[q]; exact hb))).trans e
  ·exact f1 x r rfl t2 h2 tk2 fun b o h1 h3 e=>k2 b o h1 h3 ((kZ _ _ (Ne.symm h3)).trans (kp b o h1 e))
end
theorem M5(a v:AA):argsOk "max" ⟨[a],[("default",v)]⟩:=by unfold argsOk; kernel_rfl
section
variable{prog:AC}{w:World}{A:Around}{E:AA->AB->Prop}{s:AB}
theorem MJ{l:Addr}{its:List AA}{ns:List Int}{d:AA}{Q:AA->AB->Prop}(hh:A.handled=none)(hl:s.heap.IsList l its.toArray)(hi:∀i v,its[i]?=some v->∃t,v=Value.int (ns.getD i 0) t)(hlen:its.length=ns.length)
  (h0:ns=[]->∀h' tk,(∀b o,s.heap.get? b=some o->h'.get? b=some o)->Q d { s with heap:=h',toks:=tk })
  (h1:∀b r,ns=b::r->∀t h' tk,(∀b o,s.heap.get? b=some o->h'.get? b=some o)->Q (Value.int (oZ b r) t) { s with heap:=h',toks:=tk }) :
  wpAny (model prog w) A (call (.builtin "max") [.ref l] [("default",d)]) Q E s:=by
 have nm:(toString "max" ++ toString ".loop" : String) = "max.loop" := by decide
 have lt:l<s.heap.objs.size:=by obtain⟨_,e,_⟩:=hl; exact bI e
 refine kmk_tree PySem.F.kind_max PySem.F.plain_max PySem.F.entry_max (M5 _ _) ?_;show wpAny _ A.in1 (Builtin.Builtins.bindParams "max" ["key","default"] 0 ⟨[],[("default",d)]⟩ >>= _) _ _ s;refine aL (wj (show Builtin.Builtins.bindParams "max" ["key","default"] 0 ⟨[],[("default",d)]⟩=pure [none,some d] from rfl) ?_);refine aL (bL ?_);refine aL (DY hl ?_);refine aL (qP ?_);rw[nm];have W:=Walks.list (prog:=prog) (w:=w) (A:=A.in1) hh s.heap.objs.size l (cZ lt) its.toArray;generalize eh:s.heap.push { cls:=.type "list_iterator",data:=.fields #[.ref l,.int 0 0] }=h1';have sz:h1'.objs.size=s.heap.objs.size+1:=by rw[<- eh,gf]
 have k1:∀b o,s.heap.get? b=some o->h1'.get? b=some o:=fun b o e=>by rw[<- eh]; exact cU _ e
 have hit:h1'.IsListIter s.heap.objs.size l 0:=by rw[<- eh]; exact⟨_,cI _ rfl,rfl,rfl⟩
 have hl1:h1'.IsList l its.toArray:=by rw[<- eh]; exact hl.push _
 have nf:h1'.objs.size∉[s.heap.objs.size,l]:=fun q=>by
  rcases bK.mp q with e | q
  ·rw[sz] at e; exact Nat.succ_ne_self _ e
  ·have e:=dM.mp q; rw[sz] at e; rw[<- e] at lt; exact pU _ (Ec (Bg _) lt)
 have ol:∀{h':Heap},(∀b o,b∉[s.heap.objs.size]->b≠h1'.objs.size->(h1'.push { cls:=.type "list",data:=.seq #[] 0 }).get? b=some o->h'.get? b=some o)->∀b o,s.heap.get? b=some o->h'.get? b=some o:=fun k b o e=>by
  have lb:=bI e;refine k b o (fun q=>?_) (fun q=>?_) (cU _ (k1 b o e))
  ·rw[dM.mp q] at lb; exact pU _ lb
  ·rw[q,sz] at lb; exact pU _ (Ec (Bg _) lb)
 refine bL ⟨plainId_quiet PySem.F.plain_max_loop _,Lz (ns:=ns) W (by rw[d_,hlen]) (fun i v e=>hi i v (by simpa using e)) h1'.objs.size nf d _ _ ?_ (cI _ rfl) (fun e h' tk k=>h0 e h' tk (ol k)) (fun x r e t h' tk k=>h1 x r e t h' tk (ol k))⟩
 exact W.frame _ _ _ (show h1'.IsListIter s.heap.objs.size l 0/\h1'.IsList l its.toArray from⟨hit,hl1⟩) fun b _ o e=>cU _ e
end
section
variable{X:Cx}
def Vm(t:TA)(te:TE):TE:=fun σ H Q=>t σ H fun vs H1=>te σ H1 fun y H2=>∃(p:Addr)(ns:List Int),vs=[.ref p]/\H2 p=some (.lst (ns.map V.int))/\(ns=[]->Q y H2)/\∀b r,ns=b::r->Q (.int (oZ b r)) H2
theorem An{ns:List Int}:∀{us:List AA},Vals (ns.map V.int) us->∀i v,us[i]?=some v->∃t,v=Value.int (ns.getD i 0) t:=by
 induction ns with
 | nil=>intro us r i v e; cases r; simp at e
 | cons n ns ih=>
  intro us r i v e;cases r with
  | cons r1 r2=>
   cases i with
   | zero=>
    obtain⟨t,rfl⟩:=(r1:∃t,_=Value.int n t);simp at e;exact⟨t,e.symm⟩
   | succ i=>simpa using ih r2 i v (by simpa using e)
theorem Tq{e e2:Expr}{t:TA}{te:TE}{p pos Ug:Pos}(hc:X.calm=true)(hm:X.mg "max" = none)(ha:PA X [e] t)(hk:PE X e2 te)(hg: ~~~(Gl X "max"))(h1: ~~~(bJ e=true)) :
  PE X (.Call (.Name "max" p) [e] [⟨some "default",e2,Ug⟩] pos) (Vm t te):=by
 symm;intro Q I h;refine qQ (gZ I hg hm tM ?_ ⋯ ⋯)
 refine callWith_kw ?_ ?_ ?_ ?_ ?_
 ·refine cA (ha pos ae s σ H _ I h) fun us s1 qx=>?_;obtain⟨vs,H1,I1,r,q⟩:=qx;refine cA ((Tc hk WX:PK X [⟨some "default",e2,Ug⟩] _) pos ae s1 σ H1 (fun ys H2=>∃y,ys=[y]/\(∃(p:Addr)(ns:List Int),vs=[.ref p]/\H2 p=some (.lst (ns.map V.int))/\(ns=[]->Q y H2)/\∀b r,ns=b::r->Q (.int (oZ b r)) H2)) I1 ?_) fun ws s2 ⟨zs,H2,I2,rz,q2⟩=>?_
  ·show te σ H1 (fun x H2=>∃y,[x]=[y]/\_)
   have fe:(fun(x:V)(H2:Hp)=>∃y,[x]=[y]/\(∃(p:Addr)(ns:List Int),vs=[.ref p]/\H2 p=some (.lst (ns.map V.int))/\(ns=[]->Q y H2)/\∀b r,ns=b::r->Q (.int (oZ b r)) H2))=fun y H2=>∃(p:Addr)(ns:List Int),vs=[.ref p]/\H2 p=some (.lst (ns.map V.int))/\(ns=[]->Q y H2)/\∀b r,ns=b::r->Q (.int (oZ b r)) H2:=by
    funext x H2
    refine propext ⟨?_,fun z=>⟨x,rfl,z⟩⟩;rintro⟨y,ey,z⟩;cases ey;exact z
   rw[fe];exact q
  ·obtain⟨y,rfl,l,ns,rfl,hl,q0,q1⟩:=q2;obtain⟨u,rfl,ru⟩:=r.one;cases ru;obtain⟨v,rfl,rv⟩:=rz.one;obtain⟨_,its,n,rvs,eo⟩:=I2.hok l _ hl;have hlen:=rvs.length;rw[bZ] at hlen;refine MJ (ns:=ns) (I2.ok.hd hc) (show s2.heap.IsList l its.toArray from⟨_,eo,rfl,n,rfl⟩) (An rvs) hlen.symm (fun e h' tk k=>⟨y,H2,I2.kept (t':=tk) k,rv,q0 e⟩) (fun b r e t h' tk k=>⟨.int (oZ b r),H2,I2.kept (t':=tk) k,⟨t,rfl⟩,q1 b r e⟩)
 ·rw[bU h1]; rfl
 ·exact b7 (es:=[e]) (by simp[h1])
 ·rfl
 ·rfl
end
def jU(t:Str):Nat:=if(("come" : Str)==t)=true then 0 else if(("done" : Str)==t)=true then 1 else 2
def Ve:List V:=[.str "come",.str "done",.str "wait"]
def aaj(K:Frag):V->List V->Hp->VK->Prop:=fun x xs H Q=>∃(p:Addr)(t:Str),x=.ref p/\dU K H p Ve/\xs=[.str t]/\t∈(["come","done","wait"]:List Str)/\Q (.int (jU t)) H
theorem vq{x y z:V}{us:List AA}(h:Vals [x,y,z] us):∃u v q,us=[u,v,q]/\RelV x u/\RelV y v/\RelV z q:=by
 obtain⟨u,r,rfl,h1,h⟩:=h.un;obtain⟨v,q,rfl,h2,h3⟩:=h.two;exact⟨u,v,q,rfl,h1,h2,h3⟩
theorem Uj{t:Str}(h:t∈(["come","done","wait"]:List Str))(h0:(("come" : Str)==t)=false)(h1:(("done" : Str)==t)=false):(("wait" : Str)==t)=true:=by
 simp only[bK,fD,or_false] at h;rcases h with rfl | rfl | rfl
 ·revert h0; decide +kernel
 ·revert h1; decide +kernel
 ·decide +kernel
section
variable{X:Cx}
theorem Dr{prog:AC}{w:World}{A:Around}{E:AA->AB->Prop}{s:AB}{p:Addr}{a b c t:Str}{k0 k1 k2 k3:Tok}{Q:AA->AB->Prop}(ht:IsTup s.heap p #[.str a k0,.str b k1,.str c k2])(hl:(a==t)=false->(b==t)=false->(c==t)=true)
  (q:∀tk,Q (Value.int (if(a==t)=true then 0 else if(b==t)=true then 1 else 2) tk) { s with toks:=s.toks+1 }):wpAny (model prog w) A (call (.builtin "tuple.index") [.ref p,.str t k3]) Q E s:=by
 refine sO PySem.F.slot_tuple_index ht.typeIs PySem.F.entry_tuple_index ?_ (PySem.F.args_tuple_index_2 _ _);show wpAny _ A.in1 (Builtin.Tuple.tupleItemsOf (.ref p) >>= _) _ _ s;refine aL (tupleItemsOf_ ht ?_);show wpAny _ _ ((pure 0:Sem Nat) >>= _) _ _ s;refine aL (bL ?_);show wpAny _ _ ((pure 3:Sem Nat) >>= _) _ _ s;refine aL (bL ?_);show wpAny _ _ (forIn [0:3] _ _ >>= _) _ _ s;rw[Std.Legacy.Range.forIn_eq_forIn_range'];have e:List.range' [0:3].start [0:3].size [0:3].step=[0,1,2]:=rfl;rw[e,DR]
 have mk:∀(i:Int){R:PySem.Fin->AB->Prop},(∀tk,R (.done (.ret (.int i tk))) { s with toks:=s.toks+1 })->wpAny (model prog w) A.in1 (retInt i) R E s:=fun i {R} h=>by
  unfold retInt;refine aL (wpAny_mkInt (bL (h _)))
 have eq:∀(z:Str)(k:Tok),SeqAt.EqAt A.in1 s (.str z k) (.str t k3) (z==t):=fun z k=>SeqAt.EqAt.str_str z k t k3;cases e0:(a==t) with
 | true=>
  rw[e0] at q;refine aL (aL (aL (eq a k0 _ _ _ _ ?_)));rw[e0,aV rfl];refine aL (mk 0 fun tk=>bL (bL (bL ⟨_,rfl,q tk⟩)))
 | false=>
  rw[e0] at q;refine aL (aL (aL (eq a k0 _ _ _ _ ?_)));rw[e0,aN ⋯]
  refine bL ?_;show wpAny _ _ (forIn [1,2] _ _) _ _ s;rw[DR];cases e1:(b==t) with
  | true=>
   rw[e1] at q;refine aL (aL (eq b k1 _ _ _ _ ?_));rw[e1,aV rfl];refine aL (mk 1 fun tk=>bL (bL (bL ⟨_,rfl,q tk⟩)))
  | false=>
   rw[e1] at q;refine aL (aL (eq b k1 _ _ _ _ ?_));rw[e1,aN ⋯]
   refine bL ?_;show wpAny _ _ (forIn [2] _ _) _ _ s;rw[DR];refine aL (aL (eq c k2 _ _ _ _ ?_));rw[hl e0 e1,aV rfl];refine aL (mk 2 fun tk=>bL (bL (bL ⟨_,rfl,q tk⟩)))
theorem LC{K:Frag}(hK:X.K=K):MtR X "tuple.index" (aaj K):=by
 subst hK;intro ae s σ H x xs v us Q I rx rv h;obtain⟨p,t,rfl,hp,rfl,ht,q⟩:=h;cases rx;obtain⟨u,rfl,tk,rfl⟩:=rv.one;obtain⟨its,r,pt,_⟩:=I.tuple hp;obtain⟨u0,u1,u2,rfl,⟨k0,rfl⟩,⟨k1,rfl⟩,⟨k2,rfl⟩⟩:=vq r;refine Dr pt (Uj ht) fun tk'=>⟨.int (jU t),H,I.tok _,⟨tk',?_⟩,q⟩;unfold jU;split
 ·rfl
 ·split <;> rfl
def GT2(K:Frag)(mg:Str->Option AA)(x:Str)(W:List V):Prop:=∃a,mg x=some (.ref a)/\(∃o,K.lookup a=some o/\o.cls=.type "tuple" /\ o.dict=none)/\∀H,dU K H a W
def ZV(K:Frag)(W:List V):TE:=fun _ H Q=>∀a,(∃o,K.lookup a=some o/\o.cls=.type "tuple" /\ o.dict=none)->(∀H',dU K H' a W)->Q (.ref a) H
theorem Tj{K:Frag}{x:Str}{W:List V}{pos:Pos}(hK:X.K=K)(h:GT2 K X.mg x W)(hg: ~~~(Gl X x))(hd:((x==("__debug__" : Str))=false)⁻¹):PE X (.Name x pos) (ZV K W):=by
 obtain⟨a,ha,ho,hs⟩:=h;symm;intro Q I q;exact Bu (v:=.ref a) hg ha rfl hd ae s σ H Q I (q a ho hs)
end
section
variable{X:Cx}{pos:Pos}
def Vi(i j l:Nat)(ta:TA):TS:=fun D σ H=>ta σ H fun vs H1=>∃v w z,vs=[v,w,z]/\D.nx (((σ.set l (some z)).set j (some w)).set i (some v)) H1
theorem S7{i j l:Nat}{x y z:Str}{a b c:Expr}{ta:TA}{px py pz pt:Pos}{kt k2 WT}(hc:X.calm=true)(hN:X.N.Nodup)(hi:X.N[i]?=some x)(hj:X.N[j]?=some y)(hl:X.N[l]?=some z)
  (hx:X.env.scope.names.lookup x=some .local) (hy:X.env.scope.names.lookup y=some .local) (hz:X.env.scope.names.lookup z=some .local) (ha:PA X [a,b,c] ta)
  (hw:swappedStores [.Tuple [.Name x px,.Name y py,.Name z pz] kt pt] (.Tuple [a,b,c] k2 WT) X.env=pure (some [x,y,z]))
  (hs: ~~~(swapsWithSole [.Tuple [.Name x px,.Name y py,.Name z pz] kt pt] (.Tuple [a,b,c] k2 WT) pos.line X.env=pure false)) :
  PS X (.Assign [.Tuple [.Name x px,.Name y py,.Name z pz] kt pt] (.Tuple [a,b,c] k2 WT) pos) (Vi i j l ta):=by
 symm;intro D I h;rw[exec_Assign_arm,hs];refine aL (Be (aL (bL ?_)));rw[aN ⋯]
 refine aL (Tuple_ (cA (ha _ ae s σ H _ I h) fun us s1 qx=>?_));obtain⟨vs,H1,I1,r1,v,w,t,e1,q1⟩:=qx;subst e1;obtain⟨u1,u2,u3,rfl,rv,Bb,rt⟩:=vq r1;refine qP ?_ (by show 3<=sizeLine; decide)
 have I2:Inv X ae σ H1 { s1 with heap:=s1.heap.push { cls:=.type "tuple",data:=.seq [u1,u2,u3].toArray } }:=I1.kept (t':=s1.toks) fun b o e=>cU _ e
 rw[hw];refine aL (bL ?_);show wpAny (model X.prog X.w) X.A (do rule "assign.swapped-stores"; let items <- unpackItems (.ref s1.heap.objs.size) 3 none; assignInOrder [fun v=>bindName X.env z v,fun v=>bindName X.env y v,fun v=>bindName X.env x v] items.reverse; pure Flow.next) _ _ _
 refine aL (ur (aL (unpackItems_tuple (items:=#[u1,u2,u3]) (I.ok.hd hc) (IsTup.new s1.heap _) fun h' hx'=>?_)));have I3:=I2.kept (h':=h') (t':=s1.toks) fun b o e=>hx' b o (cZ (bI e)) e;show wpAny _ _ (assignInOrder [fun v=>bindName X.env z v,fun v=>bindName X.env y v,fun v=>bindName X.env x v] [u3,u2,u1] >>= fun _=>pure Flow.next) _ _ _;refine aL (assignInOrder_cons (Eg (iw I3 hN hl (.inl hz) rt (fun s2 I4=>?_) (.inr hz))));refine assignInOrder_cons (Eg (iw I4 hN hj (.inl hy) Bb (fun s3 I5=>?_) (.inr hy)));exact assignInOrder_cons (Eg (iw I5 hN hi (.inl hx) rv (fun s4 I6=>assignInOrder_nil (bL ⟨_,H1,I6,q1⟩)) (.inr hx)))
end
theorem Inv.Iw{X:Cx}{ae:List (Addr×Obj)}{σ:St}{H:Hp}{s:AB}{h':Heap}{t':Nat}{e it:Addr}(I:Inv X ae σ H s)(k:∀b o,b≠e->b≠it->s.heap.get? b=some o->h'.get? b=some o)(fe:eE X ae H e)(fi:eE X ae H it) :
  Inv X ae σ H { s with heap:=h',toks:=t' }:=by
 have k2:∀b o,b∉[e,it]->s.heap.get? b=some o->h'.get? b=some o:=fun b o hb q=>k b o (fun z=>hb (by simp[z])) (fun z=>hb (by simp[z])) q
 have fp:∀b∈[e,it],eE X ae H b:=fun b hb=>by
  rcases bK.mp hb with z | z
  ·rw[z]; exact fe
  ·rw[dM.mp z]; exact fi
 have ni:∀b u,H b=some u->b∉[e,it]:=fun b u q hb=>by rw[(fp b hb).1] at q; cases q
 refine I.step (g':=s.gens) (d':=s.drawn) (ch:=[e,it]) (fun b hb=>?_) (fun b o _ _ hc q _=>k2 b o hc q) (fun b o _ _ hc q _=>⟨o.slots,k2 b o hc q⟩) (fun _ _ _ _ n=>n) (fun b o hc q=>⟨o,k2 b o hc q⟩) (fun _ _ q=>q) (fun _ _ _ q=>q)
  (fun b ps q=>⟨#[],by rw[q]; simp⟩) (fun m hm=>?_) (fun b u q=>?_) I.bare
 ·obtain⟨_,f1,_,f3,f4,f5⟩:=fp b hb;exact⟨f3,f1,f4,f5⟩
 ·obtain⟨o,es,ep,ho,r⟩:=hm;refine⟨o,es,ep,k2 _ o (fun hb=>(fp _ hb).2.1 rfl) ho,r⟩
 ·refine(I.hok b u q).stay (fun c v hc z=>k2 c v ?_ z) (fun _ z=>z) fun _ _ z=>z;rcases hc with z | z
  ·rw[z]; exact ni b u q
  ·exact ni c _ z
def Zg(K:Frag)(a:Addr):It:=
 ⟨fun i H=>∃xs x,cz K H a xs/\xs[i]?=some x,fun i H x H'=>∃p y,H p=none/\x=.ref p/\H'=upd H p (.tup [.int i,y])/\∀xs,cz K H a xs->xs[i]?=some y,fun i H=>∃xs,cz K H a xs/\xs.length<=i⟩
theorem KN{P:AC}{w:World}{K:Frag}{elts:List Expr}{x1}{tp:Pos}(a e it:Addr)(hne:e≠it):Turn P w K (.Tuple elts x1 tp) (Zg K a) [e,it] e (fun i h=>(∃old,IsEnum h e it (i:Nat) old)/\h.IsListIter it a i) where
 mem:=by simp
 obj:=fun i h st b hb=>by
  obtain⟨⟨old,he⟩,o,ho,c,d⟩:=st;rcases bK.mp hb with z | z
  ·rw[z]; exact⟨_,he,fun v q=>by cases q⟩
  ·rw[dM.mp z]; exact⟨o,ho,fun v q=>by rw[d] at q; cases q⟩
 keep:=fun i h h' st k=>by
  obtain⟨⟨old,he⟩,hi⟩:=st;exact⟨⟨old,k e (by simp) _ he⟩,hi.at fun o q=>k it (by simp) o q⟩
 item:=by
  intro X hP hw hK hc i ae s σ H E I hf st hg;subst hP hw hK;obtain⟨⟨old,he⟩,hi⟩:=st;obtain⟨xs,x,hq,hx⟩:=hg;obtain⟨its,rv,p,hz⟩:=I.list hq;obtain⟨u,hu,ru⟩:=rv.get hx;have fe:=hf e (by simp)
  have fi:=hf it (by simp)
  refine wpAny_pyNext_enum_item he hi p.isList (x:=u) (by simpa using hu) hne fun h' eo hi' ht hsz kk=>?_
  have fr:H s.heap.objs.size=none:=I.hok.fresh (bc _)
  have I1:Inv X ae σ (upd H s.heap.objs.size (.tup [.int i,x])) { s with heap:=s.heap.push { cls:=.type "tuple",data:=.seq #[.int i s.toks,u] },toks:=s.toks }:=
   I.laid (t':=s.toks) (fun b v q=>cU _ q) (bc _) ⟨(by show 2<=sizeLine; decide),[.int i s.toks,u],.cons ⟨_,rfl⟩ (.cons ru .nil),⟨_,cI _ rfl,rfl,_,rfl⟩⟩
  have ee:e<s.heap.objs.size:=bI he;have ei:it<s.heap.objs.size:=by obtain⟨o,ho,_⟩:=hi; exact bI ho
  have Hz:eE X ae (upd H s.heap.objs.size (.tup [.int i,x])) e:=⟨by rw[aC (cZ ee)]; exact fe.1,fe.2⟩
  have fi1:eE X ae (upd H s.heap.objs.size (.tup [.int i,x])) it:=⟨by rw[aC (cZ ei)]; exact fi.1,fi.2⟩
  have I2:Inv X ae σ (upd H s.heap.objs.size (.tup [.int i,x])) { s with heap:=h',toks:=s.toks+1 }:=I1.Iw (t':=s.toks+1) (fun b o h1 h2 q=>by
   by_cases z:b=s.heap.objs.size
   ·subst z;rw[cI _ rfl] at q;cases q;exact ht
   ·rcases Heap.get?_push_cases q with w | w
    ·exact absurd w.1 z
    ·exact kk b o h1 h2 w) Hz fi1
  refine⟨_,rfl,wpAny_letOwnedTupleGo_enum eo fun h'' en sb=>⟨.ref s.heap.objs.size,_,I2.turned (it:=e) (t':=s.toks+1) (fun b o hb q=>sb.extBut b o hb q) Hz.1 Hz.2.1 Hz.2.2.2.1 Hz.2.2.2.2.1 Hz.2.2.2.2.2,rfl,⟨_,x,fr,rfl,rfl,fun ys hy=>by rw[I.wX hy hq]; exact hx⟩,⟨⟨_,en⟩,?_⟩,fun b hb=>?_⟩⟩
  ·exact hi'.at fun o q=>sb.extBut it o (Ne.symm hne) q
  ·rcases bK.mp hb with z | z
   ·rw[z]; exact Hz.1
   ·rw[dM.mp z]; exact fi1.1
 done:=by
  intro X hP hw hK hc i ae s σ H E I hf st hg;subst hP hw hK;obtain⟨⟨old,he⟩,hi⟩:=st;obtain⟨xs,hq,hx⟩:=hg;obtain⟨its,rv,p,hz⟩:=I.list hq;have hl:=rv.length;obtain⟨f0,f1,f2,f3,f4,f5⟩:=hf it (by simp)
  exact wpAny_pyNext_enum_end (I.ok.hd hc) he hi p.isList (by simp; omega) fun h' eb=>⟨rfl,I.turned (t':=s.toks) (fun b o hb q=>eb b o hb q) f0 f1 f3 f4 f5⟩
 self:=fun _ _ _ _ _ st h=>by
  obtain⟨⟨old,he⟩,_⟩:=st;exact Jp he h
section
variable{X:Cx}
def VR(K:Frag)(ta:TA):TI:=fun σ H R=>ta σ H fun vs H1=>∃a,vs=[.ref a]/\(∃xs,cz K H1 a xs)/\R (Zg K a) H1
theorem JF{K:Frag}{e:Expr}{elts:List Expr}{x1}{tp p pos:Pos}{ta:TA}(hK:X.K=K)(hm:X.mg "enumerate" = none)(ha:PA X [e] ta)(hg: ~~~(Gl X "enumerate"))(h1: ~~~(bJ e=true)) :
  PI X (.Tuple elts x1 tp) (.Call (.Name "enumerate" p) [e] [] pos) (VR K ta):=by
 subst hK;symm;intro R I h;refine qQ (gZ I hg hm rM ?_ ⋯ ⋯)
 refine PyProof.Rows.callWith_type1 (cA (ha pos ae s σ H _ I h) fun us s1 ⟨vs,H1,I1,r1,q1⟩=>?_) (bU h1) (b7 (es:=[]) rfl);obtain⟨a,rfl,⟨xs,hq⟩,q⟩:=q1;obtain⟨u,rfl,ru⟩:=r1.one;cases ru;obtain⟨its,rv,pl,hz⟩:=I1.list hq;refine call_enumerate_list pl.isList fun h' he hi hsz kk=>?_;have I2:Inv X ae σ H1 { s1 with heap:=h' }:=I1.kept (t':=s1.toks) kk
 have f1:H1 (s1.heap.objs.size+1)=none:=I1.hok.fresh (tX _);have f0:H1 s1.heap.objs.size=none:=I1.hok.fresh (bc _);refine Jp he ⟨s1.heap.objs.size+1,_,_,Zg X.K a,H1,rfl,I2,KN a (s1.heap.objs.size+1) s1.heap.objs.size (Nat.succ_ne_self _),⟨⟨_,he⟩,hi⟩,fun b hb=>?_,q⟩;rcases bK.mp hb with z | z
 ·rw[z]; exact I1.nR (tX _) f1
 ·rw[dM.mp z]; exact I1.nR (bc _) f0
def EK(K:Frag)(g:TG)(tb:TS)(D:Ends)(σ:St)(vs:List V)(H1:Hp):Prop:=∃a,vs=[.ref a]/\(∃xs,cz K H1 a xs)/\∃W:Nat->Nat->St->Hp->Prop,(∃m,W 0 m σ H1)/\∀i m σ H,W i m σ H ->
 ((Zg K a).stop i H/\D.nx σ H)\/((Zg K a).go i H/\∃N:St->Hp->Prop,(∀σ' H',N σ' H'->∃m',m'<m/\W (i+1) m' σ' H')/\∀x H',(Zg K a).Dm i H x H'->g x σ H' fun σ2 H2=>tb { D with nx:=N,ct:=N,bk:=D.nx } σ2 H2)
theorem yV{K:Frag}{ta:TA}{g:TG}{tb:TS}{D:Ends}{σ:St}{H:Hp}:Dv (VR K ta) g tb D σ H=ta σ H (EK K g tb D σ):=rfl
theorem EK.of{K:Frag}{g:TG}{tb:TS}{D:Ends}{σ:St}{H:Hp}{a:Addr}{xs:List V}(ha:H a=some (.lst xs))(Pv:Nat->St->Hp->Prop)(h0:Pv 0 σ H)(hl:∀i σ H',i<=xs.length->Pv i σ H'->H' a=some (.lst xs))
  (hs:∀i x σ H p,xs[i]?=some x->Pv i σ H->H p=none->g (.ref p) σ (upd H p (.tup [.int (i:Nat),x])) fun σ2 H2=>tb { D with nx:=Pv (i+1),ct:=Pv (i+1),bk:=D.nx } σ2 H2) (hd:∀σ H,Pv xs.length σ H->D.nx σ H):EK K g tb D σ [.ref a] H:=by
 refine⟨a,rfl,⟨xs,cz.of ha⟩,fun i m σ H=>m=xs.length-i/\i<=xs.length/\Pv i σ H,⟨_,rfl,eV _,h0⟩,?_⟩;rintro i m σ H ⟨rfl,hi,p⟩;have q:cz K H a xs:=cz.of (hl i σ H hi p);by_cases hlt:i<xs.length
 ·refine .inr ⟨⟨xs,xs[i],q,cN hlt⟩,Pv (i+1),fun σ' H' p'=>⟨xs.length-(i+1),∅,rfl,hlt,p'⟩,fun x H' y=>?_⟩
  obtain⟨t,z,ht,rfl,rfl,hz⟩:=y;exact hs i z σ H t (hz xs q) p ht
 ·have e:i=xs.length:=by omega
  subst e;exact .inl ⟨⟨xs,q,bc _⟩,hd σ H p⟩
end
def pairOf:AA->Int×Tok
 | .int i t=>(i,t)
 | _=>(0,0)
theorem xj:∀{ns:List Int}{us:List AA},Vals (ns.map V.int) us->us.toArray=intItems (us.map pairOf).toArray/\us.map (fun u=>(pairOf u).1)=ns
 | [],_,.nil=>⟨by simp[intItems],rfl⟩
 | n::ns,_,.cons r t=>by
  obtain⟨tk,rfl⟩:=(r:∃tk,_=Value.int n tk);obtain⟨h1,h2⟩:=xj t;refine⟨?_,by rw[jk,h2]; rfl⟩
  have h1':=lJ Array.toList h1;unfold intItems at h1' ⊢
  apply Array.ext'
  simp at h1' ⊢;exact⟨⟨rfl,rfl⟩,h1'⟩
section
variable{X:Cx}
theorem oU:cJ X (.type "list") (fun vs H Q=>∃(p:Addr)(ys:List V),vs=[.ref p]/\H p=some (.lst ys)/\∀l,H l=none->Q (.ref l) (upd H l (.lst ys))):=by
 symm;intro vs us Q I r h;obtain⟨p,ys,e,hp,q⟩:=h;exact rE ae s σ H vs us Q I r ⟨p,ys,e,.inl (cz.of hp),q⟩
theorem gY{K:Frag}{o e:Expr}{es:List Expr}{to:TE}{t:TA}{name:Str}{apos cpos:Pos}{T id:String}{r:V->List V->Hp->VK->Prop}(hK:X.K=K)(pa:PlainAttrs T)(slot:Slot T name id)(hty:typeOf (.builtin id)=pure (.type "method_descriptor"))(hm:MtR X id r)(ho:PE X o to)(ha:PA X (e::es) t)
  (hbase: ~~~(attributeBase o name X.env (eval o X.env)=eval o X.env))
  (hfew: ~~~(((backTo cpos (starEach (e::es) X.env)).all (fun x=>!x.1)&&(backToKw cpos (keywordEach [] X.env)).all (fun x=>x.1.isSome)&&decide ((e::es).length+([]:List Keyword).length+(if([]:List Keyword).isEmpty then 0 else 1)<30))=true))
  (hline: ~~~((apos.endLine==cpos.line)=true)) (hs: ~~~(starEach (e::es) X.env=(false,eval e X.env)::starEach es X.env)) (hplain: ~~~((backTo cpos (starEach es X.env)).any (·.1)=false)):PE X (.Call (.Attribute o name apos) (e::es) [] cpos) (tBM K T r to t):=by
 subst hK;exact aay pa slot hty hm ho ha hbase hfew hline hs hplain
end
theorem Gx:isSubtype (.type "range_iterator") (.type "reversed")=pure false:=by rw[isSubtype_type]; kernel_rfl
section
variable{prog:AC}{w:World}{A:Around}{E:AA->AB->Prop}{s:AB}
def v_(n:Int):Obj:={ cls:=.type "range_iterator",data:=.fields #[rawInt (n-1),rawInt n,rawInt (-1)] }
theorem xO{r:Addr}{n:Int}{t u v:Tok}{Q:AA->AB->Prop}(hr:IsRange s.heap r 0 n 1 t u v)(h0:0<=n)(h1:n<2 ^ 62)(h:Q (.ref s.heap.objs.size) { s with heap:=s.heap.push (v_ n) }) :
  wpAny (model prog w) A (call (.builtin "range.__reversed__") [.ref r]) Q E s:=by
 have hT:s.TypeIs (.ref r) "range" := ⟨_,hr,rfl⟩;refine sO PySem.F.slot_range_reversed hT PySem.F.entry_range_reversed ?_ (PySem.F.args_range_reversed_1 _);unfold Builtin.«range.__reversed__»;refine aL (wj (a:=Value.ref r) rfl ?_)
 have rf:∀{R:Int×Int×Int->AB->Prop},R (0,n,1) s->wpAny (model prog w) A.in1 (Builtin.Range.rangeFields (.ref r)) R E s:=fun {R} hR=>by
  unfold Builtin.Range.rangeFields;refine aL (gF hr rfl (x:=.int 0 t) rfl (aL (wj (a:=some (0:Int)) rfl ?_)));refine aL (gF hr rfl (x:=.int n u) rfl (aL (wj (a:=some n) rfl ?_)));exact aL (gF hr rfl (x:=.int 1 v) rfl (aL (wj (a:=some (1:Int)) rfl (bL hR))))
 refine aL (rf ?_);dsimp only;have sz:Builtin.Range.rangeSize 0 n 1=n:=by rw[rangeSize_one]; split <;> omega
 rw[sz]
 have sm:(Builtin.Range.rangeFitsLong 0&&Builtin.Range.rangeFitsLong n&&Builtin.Range.rangeFitsLong 1&&Builtin.Range.rangeFitsLong (-1)&&Builtin.Range.rangeFitsLong (0-1)&&Builtin.Range.rangeFitsLong n)=true:=by
  have:Builtin.Range.rangeFitsLong n=true:=by simp only[Builtin.Range.rangeFitsLong,DX,decide_eq_true_eq]; omega
  rw[this]; decide
 rw[sm];simp only[Bool.not_true,x_,if_false,if_true];have e1:(0+(n-1)*1:Int)=n-1:=by omega
 rw[e1];exact aL (qP (bL ⟨_,rfl,h⟩))
theorem xK{r:Addr}{n:Int}{t u v:Tok}{Q:AA->AB->Prop}(hr:IsRange s.heap r 0 n 1 t u v)(h0:0<=n)(h1:n<2 ^ 62)(h:Q (.ref s.heap.objs.size) { s with heap:=s.heap.push (v_ n) }) :
  codeAny (model prog w) A (.call (.builtin "reversed.__new__") ⟨[.type "reversed",.ref r],[]⟩) (wants Q E) s:=by
 have hT:s.TypeIs (.ref r) "range" := ⟨_,hr,rfl⟩;refine codeAny_of_tree ?_;show wpAny _ A.in1 (do checkBuiltinCall "reversed.__new__" ⟨[.type "reversed",.ref r],[]⟩; again (.builtin "reversed.__new__" ⟨[.type "reversed",.ref r],[]⟩)) _ _ s
 refine aL (wj (F.newCall_reversed_1 (.ref r)) (bL ⟨plainId_quiet F.plain_reversed_new _,codeAny_builtin F.entry_reversed_new ?_⟩));rw[Around.under_plainId F.plain_reversed_new _];unfold Builtin.«reversed.__new__»;refine aL (wj (newClass_reversed (.ref r)) ?_); (try dsimp only)
 refine aL (wj (a:=()) rfl (aL (wj (a:=()) rfl ?_)));refine aL (wpAny_specialOf hT PySem.F.slot_range_reversed.lookup ?_); (try dsimp only)
 refine aL (wj (PySem.F.slot_range_reversed.bind _) ?_); (try dsimp only)
 rw[aN (show ¬((Value.builtin "range.__reversed__" == Value.none)=true) from iK)];refine aL (ur (aL (m:=runValue (.call (.builtin "range.__reversed__") ⟨[.ref r],[]⟩)) (show wpAny _ _ (call (.builtin "range.__reversed__") [.ref r]) _ _ _ from xO hr h0 h1 ?_)))
 first
  | exact bL h
  | exact aL (bL (bL h))
theorem xN{r:Addr}{n:Int}{t u v:Tok}{Q:AA->AB->Prop}(hr:IsRange s.heap r 0 n 1 t u v)(h0:0<=n)(h1:n<2 ^ 62)(h:Q (.ref s.heap.objs.size) { s with heap:=s.heap.push (v_ n) }) :
  wpAny (model prog w) A (call (.type "reversed") [.ref r]) Q E s:=by
 refine callType_other (U:="range_iterator") (Q₁:=fun obj z=>obj=.ref s.heap.objs.size/\z={ s with heap:=s.heap.push (v_ n) }) (by decide +kernel) F.create_reversed ⟨_,_,F.mro_reversed⟩ F.made_reversed Gx (F.typeCall_reversed_1 _) (xK hr h0 h1 ⟨rfl,rfl⟩) ?_
 rintro obj z ⟨rfl,rfl⟩;exact⟨⟨_,cI _ rfl,rfl⟩,h⟩
end
def Zf(n:Nat):It:=⟨fun i _=>i<n,fun i H x H'=>H'=H/\x=.int ((n:Int)-1-i),fun i _=>n<=i⟩
theorem Ob{P:AC}{w:World}{K:Frag}{tg:Expr}(it:Addr)(n:Nat):Turn P w K tg (Zf n) [it] it (fun i h=>IsRangeIter h it ((n:Int)-1+(i:Nat)*(-1)) ((n:Int)-(i:Nat)) (-1)) where
 mem:=by simp
 obj:=fun i h st b hb=>by
  rw[dM.mp hb]
  exact⟨_,st,fun v z=>by
   have z':Data.fields _=Data.cell v:=z
   cases z'⟩
 keep:=fun i h h' st k=>k it (by simp) _ st
 item:=by
  intro X hP hw hK hc i ae s σ H E I hf st hg;subst hP hw hK;obtain⟨f0,f1,f2,f3,f4,f5⟩:=hf it (by simp)
  have W:=Walks.range (prog:=X.prog) (w:=X.w) (I.ok.hd hc) it ((n:Int)-1) (-1) n;refine W.item i s _ _ hg st fun v h' tk hv st' kk=>?_;obtain⟨t,rfl⟩:=hv;have I1:Inv X ae σ H { s with heap:=h',toks:=tk }:=I.turned (fun b o hb e=>kk b o (by simpa using hb) e) f0 f1 f3 f4 f5
  refine⟨_,rfl,xm (s:={ s with heap:=h',toks:=tk }) (n:="range_iterator") st' rfl rfl ⋯ ⟨.int ((n:Int)-1-i),H,I1,⟨t,?_⟩,⟨rfl,rfl⟩,st',fun b hb=>(hf b hb).1⟩⟩
  congr 1
  omega
 done:=by
  intro X hP hw hK hc i ae s σ H E I hf st hg;subst hP hw hK;obtain⟨f0,f1,f2,f3,f4,f5⟩:=hf it (by simp)
  exact wpAny_pyNext_range_end (I.ok.hd hc) st (by have:n<=i:=hg; omega) fun h' eb=>⟨rfl,I.turned (t':=s.toks) (fun b o hb e=>eb b o hb e) f0 f1 f3 f4 f5⟩
 self:=fun _ _ _ _ _ st h=>Ph st h
section
variable{X:Cx}
theorem F_:bootBuiltins "reversed" = some (.type "reversed"):=by decide +kernel
def aaZ(ta:TA):TI:=fun σ H R=>ta σ H fun vs H1=>∃n:Nat,vs=[.int n]/\n<=1000000/\R (Zf n) H1
theorem W_{tg a:Expr}{p p2 pos pos2:Pos}{ta:TA}(hm:X.mg "reversed" = none)(hm2:X.mg "range" = none)(ha:PA X [a] ta)(hg: ~~~(Gl X "reversed"))(hg2: ~~~(Gl X "range"))(h1: ~~~(bJ a=true)) :
  PI X tg (.Call (.Name "reversed" p) [.Call (.Name "range" p2) [a] [] pos2] [] pos) (aaZ ta):=by
 symm;intro R I h;refine qQ (gZ I hg hm F_ ?_ ⋯ ⋯)
 refine PyProof.Rows.callWith_type1 ?_ (bU rfl) (b7 (es:=[]) rfl);rw[bU (e:=.Call (.Name "range" p2) [a] [] pos2) rfl];show wpAny _ _ (spliced ((false,eval (.Call (.Name "range" p2) [a] [] pos2) X.env)::backTo pos (starEach [] X.env))) _ _ s;refine Calls.spliced_cons ?_;refine qQ (gZ I hg2 hm2 Rg ?_ ⋯ ⋯)
 refine PyProof.Rows.callWith_type1 (cA (ha pos2 ae s σ H _ I h) fun us s1 ⟨vs,H1,I1,r1,n,e,hn,q⟩=>?_) (bU h1) (b7 (es:=[]) rfl);subst e;obtain⟨u,rfl,t,rfl⟩:=r1.one;refine call_range_1 ?_;refine Calls.spliced_nil ?_;refine xN (IsRange.new ..) ∅ ∅ ?_
 have k2:∀b o,s1.heap.get? b=some o->((s1.heap.push { cls:=.type "range",data:=.fields #[.int 0 s1.toks,.int (n:Int) t,.int 1 (s1.toks+1)] }).push (v_ n)).get? b=some o:=fun b o e=>cU _ (cU _ e);have I2:=I1.kept (t':=s1.toks+1+1) k2;generalize hh:s1.heap.push { cls:=.type "range",data:=.fields #[.int 0 s1.toks,.int (n:Int) t,.int 1 (s1.toks+1)] }=h1' at I2 ⊢;have sz:s1.heap.objs.size<=h1'.objs.size:=by rw[<- hh,gf]; exact tX _
 have st:IsRangeIter (h1'.push (v_ n)) h1'.objs.size ((n:Int)-1+((0:Nat):Int)*(-1)) ((n:Int)-((0:Nat):Int)) (-1):=by
  have e1:(n:Int)-1+((0:Nat):Int)*(-1)=(n:Int)-1:=by simp
  have e2:(n:Int)-((0:Nat):Int)=n:=by simp
  rw[e1,e2];exact cI _ rfl
 refine Ph (s:={ s1 with heap:=h1'.push (v_ n),toks:=s1.toks+1+1 }) (by exact st) ⟨h1'.objs.size,[h1'.objs.size],_,Zf n,H1,rfl,I2,Ob _ n,st,fun b hb=>?_,q⟩
 rw[dM.mp hb];exact I1.nR sz (I1.hok.fresh sz)
def VK'(g:TG)(tb:TS)(D:Ends)(σ:St)(vs:List V)(H1:Hp):Prop:=∃n:Nat,vs=[.int n]/\n<=1000000/\∃W:Nat->Nat->St->Hp->Prop,(∃m,W 0 m σ H1)/\∀i m σ H,W i m σ H ->
 ((Zf n).stop i H/\D.nx σ H)\/((Zf n).go i H/\∃N:St->Hp->Prop,(∀σ' H',N σ' H'->∃m',m'<m/\W (i+1) m' σ' H')/\∀x H',(Zf n).Dm i H x H'->g x σ H' fun σ2 H2=>tb { D with nx:=N,ct:=N,bk:=D.nx } σ2 H2)
theorem Ol{ta:TA}{g:TG}{tb:TS}{D:Ends}{σ:St}{H:Hp}:Dv (aaZ ta) g tb D σ H=ta σ H (VK' g tb D σ):=rfl
theorem VK'.of{g:TG}{tb:TS}{D:Ends}{σ:St}{H:Hp}{n:Nat}{i:Int}(ei:i=n)(hn:n<=1000000)(Pv:Nat->St->Hp->Prop)(h0:Pv 0 σ H)
  (hs:∀i σ H,i<n->Pv i σ H->g (.int ((n:Int)-1-(i:Nat))) σ H fun σ2 H2=>tb { D with nx:=Pv (i+1),ct:=Pv (i+1),bk:=D.nx } σ2 H2) (hd:∀σ H,Pv n σ H->D.nx σ H):VK' g tb D σ [.int i] H:=by
 subst ei;refine⟨n,rfl,hn,fun i m σ H=>m=n-i/\i<=n/\Pv i σ H,⟨n,rfl,eV _,h0⟩,?_⟩;rintro i m σ H ⟨rfl,hi,p⟩;by_cases hlt:i<n
 ·refine .inr ⟨hlt,Pv (i+1),fun σ' H' p'=>⟨n-(i+1),∅,rfl,hlt,p'⟩,fun x H' y=>?_⟩
  obtain⟨e1,e2⟩:=y;subst e1 e2;exact hs i σ _ hlt p
 ·have e:i=n:=by omega
  subst e;exact .inl ⟨bc _,hd σ H p⟩
end
structure Im(K:Frag)(x qual:Str)(st:Stmt)(f:Addr)(fd:FuncData)(T:Addr)(i:Int)(t:Tok):Prop where
 ex:∃(oc:AA)(od:Option Addr)(kV doc pm:AA)(an:Option Addr)(cdv ct:AA)(osl:Array (Option AA)),
  fd=fnOf x qual (b_ st) (bT st) (aG st) (.ref T) kV doc pm an cdv ct/\K.lookup f=some ⟨oc,od,.func fd,osl⟩/\codeIn K cdv qual=true
 kp:keepIn K (.ref f)=true
 df:∃o n,K.lookup T=some o/\o.data=.seq #[.int i t] n
section
variable{P:AC}{w:World}{K:Frag}{mg:Str->Option AA}{base:Heap}
theorem Im.ok{x qual:Str}{st:Stmt}{f T:Addr}{i:Int}{t:Tok}{fd:FuncData}{N ps:List Str}{k:Nat}{sp:Sp}(F:Im K x qual st f fd T i t)(S:aX N ps (aG st))(len: autoParam (∀vs H Q E,sp vs H Q E->vs.length=ps.length) zg._auto_1)
  (hbody:∀(cdv:AA)(A:Around)(outer:List Env)(s:AB)(H:Hp)(vs:List V)(Q:VK)(E:XK),dR k (A.deeper (envOfC qual (aG st) s.heap.objs.size f cdv))->sp vs H Q E ->
   ∃t,Aj (gq ig P w K mg base N qual (aG st) f cdv A outer s H E).YK (bT st) t/\t { nx:=fun _ H'=>Q .non H',rt:=Q } (start N vs) H):bH P w K mg base ig (k+1) f fd ps sp:=by
 obtain⟨oc,od,kV,doc,pm,an,cdv,ct,osl,rfl,lk,hcd⟩:=F.ex;exact V1 lk hcd S len fun A outer s H vs Q E hr hsp=>let ⟨t,h,q⟩:=hbody cdv A outer s H vs Q E hr hsp; ⟨t,h.YK,q⟩
theorem Im.binds{x qual:Str}{st:Stmt}{f T:Addr}{i:Int}{t:Tok}{fd:FuncData}{ps:List Str}{ds:List AA}(F:Im K x qual st f fd T i t)
  (h:∀(kV doc pm:AA)(an:Option Addr)(cdv ct:AA)(us:List AA),(us++ds).length=ps.length->∃k,bindArgs (fnOf x qual (b_ st) (bT st) (aG st) (.ref T) kV doc pm an cdv ct) ⟨us,[]⟩=seqItems? (.ref T) >>= k/\k (some #[.int i t])=pure (ps.zip (us++ds))):Binds K fd ps ds:=by
 obtain⟨oc,od,kV,doc,pm,an,cdv,ct,osl,rfl,lk,hcd⟩:=F.ex;obtain⟨o,n,ho,hd⟩:=F.df;intro s us KX hl;obtain⟨k,h1,h2⟩:=h kV doc pm an cdv ct us hl;exact BindsTo.of_defaults rfl (KX _ _ ho) hd h1 h2
end
structure RK(P:AC)(w:World)(K:Frag)(mg:Str->Option AA)(base:Heap)(k:Nat)(x:Str)(ps:List Str)(i:Int)(sp:Sp) where
 f:Addr
 fd:FuncData
 t:Tok
 G:bH P w K mg base ig k f fd ps sp
 kp:keepIn K (.ref f)=true
 b:Binds K fd ps []
 bd:Binds K fd ps [.int i t]
 m:mg x=some (.ref f)
def RK.mono{P:AC}{w:World}{K:Frag}{mg:Str->Option AA}{base:Heap}{j k:Nat}{x:Str}{ps:List Str}{i:Int}{sp:Sp}(c:RK P w K mg base j x ps i sp)(h:j<=k):RK P w K mg base k x ps i sp:={ c with G:=c.G.mono h }
section
variable{X:Cx}{x:Str}{p pos:Pos}{e:Expr}{es:List Expr}{t:TA}
theorem pfa{k:Nat}{ps:List Str}{i:Int}{sp:Sp}(c:RK X.prog X.w X.K X.mg X.base k x ps i sp)(hr:dR k X.A)(ha:PA X (e::es) t)(hg: ~~~(Gl X x))(hdb:((x==("__debug__" : Str))=false)⁻¹)(h1: ~~~(bJ e=true))(h2: ~~~(es.all bJ=true)) :
  PE X (.Call (.Name x p) (e::es) [] pos) (mZ sp [] E0 t):=JK c.G hr hg c.m c.kp c.b .nil zO ha hdb (bU h1) (b7 h2)
end
end _L
theorem Rj(a b c:PySem.Value):PySem.argsOk "list.insert" ⟨[a,b,c],[]⟩:=PySem.F.args_list_insert_3 a b c
theorem QV{j:Int}(h1:-(2 ^ 63:Int)<=j)(h2:j<2 ^ 63):¬(!PySem.Builtin.List.listFitsIndex j)=true:=by
 unfold PySem.Builtin.List.listFitsIndex;rw[mU h1,mU h2];decide
namespace _L
open PySem PySem.Spec PyProof.Rows
section
variable{X:Cx}
end
def LK(K:Frag)(g:TG)(tb:TS)(D:Ends)(σ:St)(x:V)(H1:Hp):Prop:=∃a,x=.ref a/\(∃xs,cz K H1 a xs)/\∃W:Nat->Nat->St->Hp->Prop,(∃m,W 0 m σ H1)/\∀i m σ H,W i m σ H ->
 ((Wa K a).stop i H/\D.nx σ H)\/((Wa K a).go i H/\∃N:St->Hp->Prop,(∀σ' H',N σ' H'->∃m',m'<m/\W (i+1) m' σ' H')/\∀x H',(Wa K a).Dm i H x H'->g x σ H' fun σ2 H2=>tb { D with nx:=N,ct:=N,bk:=D.nx } σ2 H2)
theorem vC{K:Frag}{tl:TE}{g:TG}{tb:TS}{D:Ends}{σ:St}{H:Hp}:Dv (nJ K tl) g tb D σ H=tl σ H (LK K g tb D σ):=rfl
theorem LK.of{K:Frag}{g:TG}{tb:TS}{D:Ends}{σ:St}{H:Hp}{a:Addr}{xs:List V}(ha:H a=some (.lst xs))(Pv:Nat->St->Hp->Prop)(h0:Pv 0 σ H)(hl:∀i σ H',i<=xs.length->Pv i σ H'->H' a=some (.lst xs))
  (hs:∀i x σ H,xs[i]?=some x->Pv i σ H->g x σ H fun σ2 H2=>tb { D with nx:=Pv (i+1),ct:=Pv (i+1),bk:=D.nx } σ2 H2) (hd:∀σ H,Pv xs.length σ H->D.nx σ H):LK K g tb D σ (.ref a) H:=
 ⟨a,rfl,⟨xs,cz.of ha⟩,QM (xs:=xs) Pv h0 (fun i σ H' hi p=>cz.of (hl i σ H' hi p)) hs hd⟩
end _L
namespace _L
open PySem
mutual
def uH:PyData->Bool
 | .tuple ds=>bG ds
 | .list _=>false
 | .dict _=>false
 | .none=>true
 | .bool _=>true
 | .int _=>true
 | .str _=>true
def bG:List PyData->Bool
 | []=>true
 | d::ds=>uH d&&bG ds
end
theorem aW:∀{ds:List PyData},bG ds=true↔∀d∈ds,uH d=true
 | []=>by simp[bG]
 | d::ds=>by
  have ih:=aW (ds:=ds);simp only[bG,DX,ih,bK,forall_eq_or_imp]
mutual
theorem At.Hv{G:Hp}{p:Addr}{xs:List V}(hp:G p=some (.lst xs)):∀(d:PyData)(v:V),uH d=true->At G d v->At (hid p G) d v
 | .none,_,_,h=>by unfold At at h ⊢; exact h
 | .bool _,_,_,h=>by unfold At at h ⊢; exact h
 | .int _,_,_,h=>by unfold At at h ⊢; exact h
 | .str _,_,_,h=>by unfold At at h ⊢; exact h
 | .tuple ds,v,n,h=>by
  unfold At at h ⊢;obtain⟨a,ys,e,h1,h2⟩:=h;refine⟨a,ys,e,?_,aj.Hv hp ds ys (by simpa[uH] using n) h2⟩
  rw[cV (fun z=>by subst z; rw[hp] at h1; cases h1)]; exact h1
 | .list _,_,n,_=>by simp[uH] at n
 | .dict _,_,n,_=>by simp[uH] at n
theorem aj.Hv{G:Hp}{p:Addr}{xs:List V}(hp:G p=some (.lst xs)):∀(ds:List PyData)(ys:List V),bG ds=true->aj G ds ys->aj (hid p G) ds ys
 | [],_,_,h=>by unfold aj at h ⊢; exact h
 | d::ds,ys,n,h=>by
  unfold aj at h ⊢;obtain⟨x,r,e,h1,h2⟩:=h;have n':uH d=true/\bG ds=true:=by simpa[bG] using n
  exact⟨x,r,e,At.Hv hp d x n'.1 h1,aj.Hv hp ds r n'.2 h2⟩
end
theorem rQ:∀l:List Int,(∀c∈l,0<=c)->0<=l.sum
 | [],_=>by simp
 | x::l,h=>by rw[sG]; have:=rQ l fun c hc=>h c (dX _ hc); have:=h x eX; omega
theorem zN{ts:List Str}{i:Int}(h0:0<=i)(h1:i<ts.length):∃t,t∈ts/\Dj (ts.map V.str) i=some (.str t):=by
 have hi:i.toNat<ts.length:=by omega
 refine⟨ts[i.toNat],sH hi,?_⟩;have:=aY (xs:=ts.map V.str) (j:=i.toNat) (v:=.str ts[i.toNat]) (by rw[cD,cN hi]; rfl)
 rwa [show((i.toNat:Nat):Int)=i by omega] at this
theorem oG{ts:List Int}{i:Int}(h0:0<=i)(h1:i<ts.length):∃t,t∈ts/\Dj (ts.map V.int) i=some (.int t):=by
 have hi:i.toNat<ts.length:=by omega
 refine⟨ts[i.toNat],sH hi,?_⟩;have:=aY (xs:=ts.map V.int) (j:=i.toNat) (v:=.int ts[i.toNat]) (by rw[cD,cN hi]; rfl)
 rwa [show((i.toNat:Nat):Int)=i by omega] at this
def kJ(a b:TS):TS:=rO a b
theorem zb(i:Nat){e:TE}{b:TS}:rO (Aq e (fj i)) b=kJ (Aq e (fj i)) b:=rfl
theorem Jh{c:TT}{x y b:TS}:rO (R5 c x y) b=kJ (R5 c x y) b:=rfl
theorem kJ.of{a b:TS}{D:Ends}{σ:St}{H:Hp}(R:St->Hp->Prop)(hR:∀σ' H',R σ' H'->b D σ' H')(h:∀N:St->Hp->Prop,(∀σ' H',R σ' H'->N σ' H')->a { D with nx:=N } σ H):kJ a b D σ H:=h _ hR
theorem Xx{α:Type}{l:List α}(h:l.length=5):∃a b c d e,l=[a,b,c,d,e]:=by
 match l,h with
 | [a,b,c,d,e],_=>exact⟨a,b,c,d,e,rfl⟩
theorem aJ.gB{H H':Hp}{p:Addr}{o:HO}(s:aJ H H')(hp:H p=none):aJ H (upd H' p o):=fun b u h=>by rw[aC (cC h hp)]; exact s _ _ h
theorem UJ{xs:List V}{l h:Nat}(lh:l<=h)(hx:h<=xs.length):qj xs (some (l:Int)) (some (h:Int))=(xs.take h).drop l:=by
 unfold qj;rw[HT.uT,HT.uT,Ek hx,Ek ∅,List.drop_take]
def ug:PyData->Bool
 | .list _=>true
 | _=>false
theorem Ca(K:Frag)(d:PyData):kitOne K (.type (N8 d)) (.type "list")=some (ug d):=by cases d <;> kernel_rfl
theorem J3{X:Cx}:cJ X (.builtin "isinstance") (GZ "list" ug):=xg Ca
theorem Hj{ds:List PyData}(h:bG ds=true){i:Nat}{d:PyData}(e:ds[i]?=some d):uH d=true:=aW.mp h d (dN e)
end _L
namespace _L
open PySem PySem.Spec PyProof.Rows
def uK:Int->List Int->Int
 | b,[]=>b
 | b,x::l=>uK (if x<b then x else b) l
theorem zT:∀(l:List Int)(b x:Int),uK b (l++[x])=if x<uK b l then x else uK b l
 | [],b,x=>rfl
 | y::l,b,x=>by
  show uK (if y<b then y else b) (l++[x])=_
  rw[zT l]; rfl
theorem Ko(val:Nat->Int):∀k,val (argBest (fun i j=>decide (val i<val j)) k)=uK (val 0) ((List.range k).map fun i=>val (i+1))
 | 0=>rfl
 | k+1=>by
  have ih:=Ko val k;rw[List.range_succ,gk];show val (if decide (val (k+1)<val (argBest _ k))=true then k+1 else argBest _ k)=uK (val 0) (_++[val (k+1)])
  rw[zT,<- ih];by_cases h:val (k+1)<val (argBest (fun i j=>decide (val i<val j)) k)
  ·rw[aV (mU h),aV h]
  ·rw[aN (by rw[j4 h]; decide),aN h]
theorem JQ:∀{l:List Int}{b m:Int},m<=b->(∀x∈l,m<=x)->m<=uK b l
 | [],_,_,h,_=>h
 | x::l,b,m,h,h2=>JQ (l:=l) (by have:=h2 x eX; split <;> omega) fun y hy=>h2 y (dX _ hy)
section
variable{X:Cx}
end
structure pF(X:Cx)(nt:Nat)(N':List Str)(js:List Nat)(sc:Scope):Prop where
 kind:sc.kind=.function
 lR:∀y∈sc.names,y.2≠.cell
 names:∀y∈sc.names,y.2=.local->sc.names.lookup y.1=some .local
 clos:closureFor sc X.env=pure (qm sc X.env)
 all:(sc.names.all fun y=>y.2 != .free || (X.env.cells.lookup y.1).isSome)=true
 len:N'.length=nt+js.length
 cap:∀(i j:Nat),js[i]?=some j->N'[nt+i]?=X.N[j]?
 Q9:∀y∈N'.drop nt,X.env.kindOf y=some .cell/\sc.names.lookup y=some .free
theorem rD:∀(names:List (Str×NameKind))(h:Heap)(acc:List (Str×Addr))(x:Str)(c:Addr),(cellsFrom h.objs.size names acc).lookup x=some c->((pushCells h names).IsCell c none/\h.objs.size<=c)\/(acc.lookup x=some c/\(x,NameKind.cell)∉names)
 | [],h,acc,x,c,e=>.inr ⟨e,by simp⟩
 | (name,kind)::r,h,acc,x,c,e=>by
  unfold cellsFrom at e;unfold pushCells;split at e
  ·rename_i hk;have hk':kind=.cell:=by simpa using hk
   rw[aV hk];have:=rD r (h.push { cls:=.type "cell",data:=.cell none }) ((name,h.objs.size)::acc) x c (by rw[gf]; exact e)
   rw[gf] at this;rcases this with⟨z,z'⟩ | ⟨z,z'⟩
   ·exact .inl ⟨z,∅⟩
   ·rw[j5] at z;cases hx:x==name with
    | true=>
     rw[hx] at z;cases z;refine .inl ⟨?_,bc _⟩;exact⟨_,pushCells_keeps r _ _ _ (cI _ rfl),rfl⟩
    | false=>
     rw[hx] at z;refine .inr ⟨z,fun m=>?_⟩;rcases bK.mp m with q | q
     ·have:x=name:=(Prod.mk.inj q).1;simp[this] at hx
     ·exact z' q
  ·rename_i hk;rw[aN hk];rcases rD r h acc x c e with z | ⟨z,z'⟩
   ·exact .inl z
   ·refine .inr ⟨z,fun m=>?_⟩;rcases bK.mp m with q | q
    ·exact hk (by rw[<- (Prod.mk.inj q).2]; rfl)
    ·exact z' q
theorem HN:∀(names:List (Str×NameKind))(n:Nat)(acc:List (Str×Addr)),(∀x y c,acc.lookup x=some c->acc.lookup y=some c->x=y)->(∀x c,acc.lookup x=some c->c<n) ->
  (∀x y c,(cellsFrom n names acc).lookup x=some c->(cellsFrom n names acc).lookup y=some c->x=y)/\True
 | [],n,acc,h,_=>⟨h,trivial⟩
 | (name,kind)::r,n,acc,h,hb=>by
  unfold cellsFrom;split
  ·refine HN r (n+1) ((name,n)::acc) (fun x y c e1 e2=>?_) (fun x c e=>?_)
   ·rw[j5] at e1 e2;cases hx:x==name with
    | true=>
     rw[hx] at e1;cases e1;cases hy:y==name with
     | true=>rw[beq_iff_eq.mp hx,beq_iff_eq.mp hy]
     | false=>rw[hy] at e2; exact absurd (hb _ _ e2) (pU _)
    | false=>
     rw[hx] at e1;cases hy:y==name with
     | true=>rw[hy] at e2; cases e2; exact absurd (hb _ _ e1) (pU _)
     | false=>rw[hy] at e2; exact h x y c e1 e2
   ·rw[j5] at e;cases hx:x==name with
    | true=>rw[hx] at e; cases e; exact Bg _
    | false=>rw[hx] at e; exact Bh (hb _ _ e)
  ·exact HN r n acc h hb
theorem HQ{x:Str}:∀(names:List (Str×NameKind))(n:Nat)(acc:List (Str×Addr)),((x,NameKind.cell)∈names\/(acc.lookup x).isSome=true)->((cellsFrom n names acc).lookup x).isSome=true
 | [],n,acc,h=>by
  rcases h with h | h
  ·simp at h
  ·exact h
 | (name,kind)::r,n,acc,h=>by
  unfold cellsFrom;split
  ·rename_i hk;refine HQ r (n+1) _ ?_;rcases h with h | h
   ·rcases bK.mp h with q | q
    ·refine .inr ?_;rw[j5,(Prod.mk.inj q).1];simp
    ·exact .inl q
   ·refine .inr ?_;rw[j5];split
    ·rfl
    ·exact h
  ·rename_i hk;refine HQ r n acc ?_;rcases h with h | h
   ·rcases bK.mp h with q | q
    ·exact absurd (by rw[<- (Prod.mk.inj q).2]; rfl) hk
    ·exact .inl q
   ·exact .inr h
theorem Cy{x:Str}{c:Addr}:∀(names:List (Str×NameKind))(n:Nat)(acc:List (Str×Addr)),(x,NameKind.cell)∉names->acc.lookup x=some c->(cellsFrom n names acc).lookup x=some c
 | [],n,acc,_,e=>e
 | (name,kind)::r,n,acc,h,e=>by
  unfold cellsFrom;split
  ·rename_i hk;refine Cy r (n+1) _ (fun m=>h (dX _ m)) ?_;rw[j5];cases hx:x==name with
   | true=>
    have hk':kind=.cell:=by simpa using hk
    exact absurd (by rw[beq_iff_eq.mp hx,hk']; exact eX) h
   | false=>exact e
  ·exact Cy r n acc (fun m=>h (dX _ m)) e
theorem iT{env:Env}:∀{names:List (Str×NameKind)}{x:Str},names.lookup x=some .cell ->
  (names.map fun(n,k)=>if(k==NameKind.free&&env.scope.kind==.function&&env.kindOf n==some .cell) then(n,NameKind.cell) else(n,k)).lookup x=some .cell
 | [],_,h=>by simp at h
 | (n,k)::r,x,h=>by
  have ih:=@iT env r x;show List.lookup x ((if(k==NameKind.free&&env.scope.kind==.function&&env.kindOf n==some .cell)=true then(n,NameKind.cell) else(n,k))::_)=_
  cases hx:x==n with
  | true=>
   simp only[j5,hx] at h;cases h;simp[j5,hx]
  | false=>
   simp only[j5,hx] at h;by_cases hc:(k==NameKind.free&&env.scope.kind==.function&&env.kindOf n==some .cell)=true
   ·rw[aV hc]; simp only[j5,hx]; exact ih h
   ·rw[aN hc]; simp only[j5,hx]; exact ih h
theorem pG{M:Model}{A:Around}{E:AA->AB->Prop}{s:AB}{scope:Scope}{globals:Addr}{cl:List (Str×Addr)}{qual:Str}{env:Env}{Q:Env->AB->Prop}
  (hQ:Q { scope,locals:=s.heap.objs.size,globals,cells:=cellsFrom (s.heap.objs.size+1) scope.names cl,qual,func:=none,code:=env.code,frame:=env.frame,builtins:=env.builtins } { s with heap:=pushCells (s.heap.push { cls:=.type "dict",data:=.dict #[] }) scope.names }) :
  wpAny M A (newFunctionEnv scope globals cl [] qual none .none (some env)) Q E s:=by
 simp only[newFunctionEnv,Option.isSome_some,if_true];refine aL (wpAny_alloc ?_);refine aL (wpAny_layCells _ (fun name kind cells=>by cases hkc:kind==NameKind.cell <;> simp[hkc]) _ _ _ _ ?_)
 rw[show({ s with heap:=s.heap.push { cls:=.type "dict",data:=.dict #[] } }:AB).heap.objs.size=s.heap.objs.size+1 from gf ..]
 simp only[Ef];exact aL (bL (bL hQ))
def oM(X:Cx)(N':List Str)(sc:Scope)(fp:List Addr)(s:AB)(H:Hp):Cx where
 prog:=X.prog
 w:=X.w
 K:=X.K
 mg:=X.mg
 base:=X.base
 A:=X.A
 N:=N'
 s₀:=s
 H₀:=H
 env:=compEnvC sc (cellsFrom (s.heap.objs.size+1) sc.names (qm sc X.env)) s.heap.objs.size X.env
 outer:=X.stack
 stack:=X.stack
 ex:=fp
 fn:=fun y=>sc.names.lookup y==some .cell
 calm:=X.calm
 pn:=[]
 xe:=fun _ _=>False
structure qC(X:Cx)(nt:Nat)(N':List Str)(js:List Nat)(sc:Scope):Prop where
 kind:sc.kind=.function
 cells:∀y∈sc.names,y.2=.cell->sc.names.lookup y.1=some .cell
 names:∀y∈sc.names,y.2=.local->sc.names.lookup y.1=some .local
 clos:closureFor sc X.env=pure (qm sc X.env)
 all:(sc.names.all fun y=>y.2 != .free || (X.env.cells.lookup y.1).isSome)=true
 len:N'.length=nt+js.length
 cap:∀(i j:Nat),js[i]?=some j->N'[nt+i]?=X.N[j]?
 Q9:∀y∈N'.drop nt,X.env.kindOf y=some .cell/\sc.names.lookup y=some .free
theorem zY{X:Cx}{ae:List (Addr×Obj)}{σ:St}{H:Hp}{s:AB}{fp:List Addr}{N':List Str}{js:List Nat}{sc:Scope}{nt:Nat}{h1:Heap}{tk:Nat}(I:Inv X ae σ H s)(hf:∀b∈fp,eE X ae H b)(hlt:∀b∈fp,b<s.heap.objs.size)
  (S:qC X nt N' js sc) (Cz:∀{x:Str}{c:Addr},(cellsFrom (s.heap.objs.size+1) sc.names (qm sc X.env)).lookup x=some c->(h1.IsCell c none/\s.heap.objs.size<c)\/((qm sc X.env).lookup x=some c/\(x,NameKind.cell)∉sc.names)) (hn:h1.Ns s.heap.objs.size fun _=>none) (hk:∀b o,s.heap.get? b=some o->h1.get? b=some o):Inv (oM X N' sc fp s H) [] (List.replicate nt none++bW js σ) H { s with heap:=h1,toks:=tk }:=by
 have old:∀x c,(qm sc X.env).lookup x=some c->c<s.heap.objs.size+1:=fun x c e=>by
  obtain⟨v,o,ho,_⟩:=I.cell x c (g8 e);exact Bh (bI ho)
 refine⟨⟨I.ok.mod,S.kind,I.ok.glob,I.ok.blt,bc _,fun x y c e1 e2=>(HN sc.names _ _ (fun x y c e1 e2=>I.ok.inj x y c (g8 e1) (g8 e2)) old).1 x y c e1 e2,fun x hx=>?_,fun x c hf' e=>(by
   rcases Cz e with z | ⟨_,z⟩
   ·exact lK z.2
   ·exact absurd (PySem.mem_of_lookup (show sc.names.lookup x=some .cell from by simpa using(show(sc.names.lookup x==some NameKind.cell)=true from hf'))) z),I.ok.hd,I.ok.frames,.inl rfl,fun b hb=>⟨cZ (hlt b hb),fun x c e=>(by
   rcases Cz e with z | ⟨z,_⟩
   ·exact xY (Ec (hlt b hb) z.2)
   ·exact(hf b hb).2.2.2.2.1 x c (g8 z))⟩,I.bs,
  jJ I.ok.M4 I.sz,fun b o e hb=>?_,fun b hb z=>?_,I.stack,I.uP⟩,rfl,I.bare,Un.kept hk,⟨fun _=>none,hn,fun i x v e1 e2 e3=>?_⟩,fun x c e=>?_,I.hok.fresh (bc _),fun x c e=>(by
   rcases Cz e with z | ⟨z,_⟩
   ·exact I.hok.fresh (lK z.2)
   ·exact I.jA x c (g8 z)),fun p hp=>absurd (show p∈([]:List (Addr×Obj)) from hp) (by simp),I.hok.kept hk,?_⟩
 ·refine Lg.mp (HQ sc.names _ _ ?_);have hx':(relabel sc X.env).names.lookup x=some .cell\/(relabel sc X.env).names.lookup x=some .free:=hx
  have key:(x,NameKind.cell)∈sc.names\/(x,NameKind.free)∈sc.names:=by
   rcases hx' with q | q
   ·obtain⟨k,hm,e | ⟨e,_⟩⟩:=tW q
    ·rw[<- e] at hm; exact .inl hm
    ·refine .inr ?_; rw[<- e]; exact hm
   ·refine .inr ?_;obtain⟨k,hm,e | ⟨e,_⟩⟩:=tW q
    ·rw[e]; exact hm
    ·rw[<- e]; exact hm
  rcases key with key | key
  ·exact .inl key
  have a:=oY.mp S.all _ key;have a':(X.env.cells.lookup x).isSome=true:=by simpa using a
  obtain⟨c,hc⟩:=Lg.mp a';exact .inr (Lg.mpr ⟨c,HJ hc sc.names [] key⟩)
 ·rcases(hf b hb).2.2.2.1 with z | z
  ·exact I.ok.Fi b o e z
  ·exact absurd (nC (bI e) (jJ I.ok.M4 z)) (pU _)
 ·rcases bK.mp (I.Gy b z) with q | q
  ·exact(hf b hb).2.1 q
  ·exact(hf b hb).2.2.1 q
 ·by_cases hlt:i<nt
  ·rw[yd (by rw[pX]; exact hlt),Jv,aV hlt] at e2
   cases e2
  ·obtain⟨i',rfl⟩:∃i',i=nt+i':=⟨i-nt,∅⟩
   rw[uy (by rw[pX]; omega),pX,Nat.add_sub_cancel_left] at e2
   have e2':(bW js σ)[i']?=some (some v):=e2;unfold bW at e2';rw[cD] at e2';cases hj:js[i']? with
   | none=>rw[hj] at e2'; simp at e2'
   | some j=>
    rw[hj] at e2';have e4:(σ[j]?).join=some v:=by simpa using e2'
    have e5:σ[j]?=some (some v):=by
     cases q:σ[j]? with
     | none=>rw[q] at e4; simp at e4
     | some z=>rw[q] at e4; simp at e4; rw[e4]
    have e6:X.N[j]?=some x:=by rw[<- S.cap i' j hj]; exact e1
    have mem:x∈N'.drop nt:=by
     have e1':N'[nt+i']?=some x:=e1;exact dN (i:=i') (by rw[zM]; exact e1')
    obtain⟨k1,k2⟩:=S.Q9 x mem;obtain⟨m,_,hl⟩:=I.loc;obtain⟨u,r,l⟩:=hl j x v e6 e5 (.inr (.inl k1));refine⟨u,r,.inr ⟨.inl (qM I.ok.kind k1 sc.names k2),?_⟩⟩;rcases l with⟨z,_⟩ | ⟨_,c,hc,hcell⟩
    ·rw[k1] at z; cases z
    ·obtain⟨o,ho,hd⟩:=hcell;exact⟨c,Cy sc.names _ _ (fun z=>by have:=S.cells _ z rfl; rw[k2] at this; cases this) (HJ hc sc.names [] (PySem.mem_of_lookup k2)),o,hk c o ho,hd⟩
 ·rcases Cz e with z | ⟨z,_⟩
  ·exact⟨none,z.1⟩
  ·obtain⟨v,o,ho,hd⟩:=I.cell x c (g8 z);exact⟨v,o,hk c o ho,hd⟩
 ·show(List.replicate nt none++bW js σ).length=N'.length;rw[S.len]; simp[bW]
theorem Kl:∀{names:List (Str×NameKind)}{n:Nat}{acc:List (Str×Addr)},(∀y∈names,y.2≠.cell)->cellsFrom n names acc=acc
 | [],_,_,_=>rfl
 | (name,kind)::r,n,acc,h=>by
  unfold cellsFrom;rw[aN (fun z=>h _ eX (by simpa using z))]
  exact Kl fun y hy=>h y (dX _ hy)
theorem Aa{X:Cx}{N':List Str}{sc:Scope}{fp:List Addr}{s:AB}{H:Hp}(h:∀y∈sc.names,y.2≠.cell):Rz X N' sc fp s H=oM X N' sc fp s H:=by
 have e:(fun _:Str=>false)=fun y=>sc.names.lookup y==some .cell:=funext fun y=>by
  cases z:sc.names.lookup y==some NameKind.cell with
  | false=>rfl
  | true=>exact absurd rfl (h _ (PySem.mem_of_lookup (by simpa using z)))
 unfold Rz oM;rw[Kl h,e]
theorem pF.toD{X:Cx}{nt:Nat}{N':List Str}{js:List Nat}{sc:Scope}(S:pF X nt N' js sc):qC X nt N' js sc:=⟨S.kind,fun y hy e=>absurd e (S.lR y hy),S.names,S.clos,S.all,S.len,S.cap,S.Q9⟩
structure De(X:Cx)(ifs:List Expr)(t:TT):Prop where
 mk ::
 go:∀(ae:List (Addr×Obj))(s:AB)(σ:St)(H:Hp)(Q:Bool->Hp->Prop),Inv X ae σ H s->t σ H Q->wpAny (model X.prog X.w) X.A (forIn ifs true fun c r=>if r=true then do let ok <- isTrue c X.env (eval c X.env); pure (ForInStep.yield ok) else pure (ForInStep.yield r)) (TP X ae σ Q) X.xe s
instance {X:Cx} {ifs:List Expr} {t:TT}:CoeFun (De X ifs t) (fun _=>
 ∀(ae:List (Addr×Obj))(s:AB)(σ:St)(H:Hp)(Q:Bool->Hp->Prop),Inv X ae σ H s->t σ H Q->wpAny (model X.prog X.w) X.A (forIn ifs true fun c r=>if r=true then do let ok <- isTrue c X.env (eval c X.env); pure (ForInStep.yield ok) else pure (ForInStep.yield r)) (TP X ae σ Q) X.xe s):=⟨De.go⟩
def qG:TT:=fun _ H Q=>Q true H
theorem gH{X:Cx}:De X [] qG:=.mk fun ae s σ H Q I h=>wpAny_tests_nil ⟨H,I,h⟩
theorem Um{X:Cx}{c:Expr}{t:TT}(h:PT X c t):De X [c] t:=.mk fun ae s σ H Q I q=>wpAny_tests_one (h ae s σ H Q I q)
def eN(nt:Nat)(js:List Nat)(wi:TI)(g:TG)(tc:TT)(te:TE):TE:=fun σ H Q=>wi σ H fun J H1=>∀acc,H1 acc=none->∃W:Nat->Nat->List V->Hp->Prop,(∃m,W 0 m [] (upd H1 acc (.lst [])))/\∀i m ys H2,W i m ys H2 ->
 (J.stop i H2/\Q (.ref acc) H2)\/(J.go i H2/\∀x H3,J.Dm i H2 x H3->g x (List.replicate nt none++bW js σ) H3 fun σ' H'=>(σ'.drop nt=bW js σ/\σ'.length=(List.replicate nt (none:Option V)++bW js σ).length)/\tc σ' H' fun b cQ=>
  if b=true then te σ' cQ fun y H4=>H4 acc=some (.lst ys)/\ys.length<sizeLine/\∃m',m'<m/\W (i+1) m' (ys++[y]) (upd H4 acc (.lst (ys++[y]))) else ∃m',m'<m/\W (i+1) m' ys cQ)
theorem Cv{prog:AC}{w:World}{A:Around}{R:Result->AB->Prop}{s:AB}{elt target iter:Expr}{ifs:List Expr}{sc:Scope}{pos:Pos}{it acc:AA}{env:Env}(Iv:Nat->AB->Prop)
  (turn:∀n s,Iv n s->wpAny (model prog w) A (pyNext it) (fun r s1=>match r with
   | none=>R (.ok .next) s1
   | some v=>wpAny (model prog w) A (letOwnedTupleGo target it v) (fun _ s2=>wpAny (model prog w) A (assign target env v) (fun _ s3=>
     wpAny (model prog w) A (forIn ifs true fun c r=>if r=true then do let ok <- isTrue c env (eval c env); pure (ForInStep.yield ok) else pure (ForInStep.yield r)) (fun ok s3'=>
     if ok=true then wpAny (model prog w) A (eval elt env) (fun x s4=>
     wpAny (model prog w) A (call (.builtin "list.append") [acc,x]) (fun _ s5=>∃m,m<n/\Iv m s5) (fun _ _=>False) s4) (fun _ _=>False) s3' else ∃m,m<n/\Iv m s3') (fun _ _=>False) s3) (fun _ _=>False) s2) (fun _ _=>False) s1) (fun _ _=>False) s)
  (n:Nat) (h:Iv n s):codeAny (model prog w) A (.compLoop (.ListComp elt [⟨target,iter,ifs,0⟩] sc pos) 0 it acc env) R s:=by
 refine codeAny_loop rfl Iv (fun n s hI=>?_) n h;show wpAny _ _ ((compTurn (.ListComp elt [⟨target,iter,ifs,0⟩] sc pos) 0 it acc env).onRaise (fun x=>do noteFrame x env; theTreesLotGoes x)) _ _ s
 refine wpAny_noted ?_;rw[compTurn_list];refine aL (Be (aL (jj (turn n s hI) (fun r s1 q1=>?_) fun _ _ f=>f.elim)));cases r with
 | none=>exact bL q1
 | some v=>
  refine aL (jj q1 (fun _ s2 q2=>?_) fun _ _ f=>f.elim);refine aL (jj q2 (fun _ s3 q3=>aL (jj q3 (fun ok s3' q3'=>?_) fun _ _ f=>f.elim)) fun _ _ f=>f.elim);cases ok with
  | false=>exact bL ⟨rfl,q3'⟩
  | true=>exact aL (aL (jj q3' (fun x s4 q4=>aL (jj q4 (fun _ s5 q5=>bL (bL ⟨rfl,q5⟩)) fun _ _ f=>f.elim)) fun _ _ f=>f.elim))
theorem xH{X:Cx}{elt iter:Expr}{tg:Expr}{ifs:List Expr}{g:TG}{tc:TT}{nt:Nat}{pos:Pos}{sc:Scope}{wi:TI}{te:TE}{N':List Str}{js:List Nat}{use:Option (AA->Sem Unit)}{Qc:AA->AB->Prop}{ae:List (Addr×Obj)}{s:AB}{σ:St}{H:Hp}{Q:VK}{kp:Pos}(hc:X.calm=true)(hi:PI X tg iter wi)(S:qC X nt N' js sc)
  (hgt:∀fp s H,PG (oM X N' sc fp s H) tg g) (hif:∀fp s H,De (oM X N' sc fp s H) ifs tc) (he:∀fp s H,PE (oM X N' sc fp s H) elt te) (hs:∀x,foldedSetIterable iter X.env x=pure x) (I:Inv X ae σ H s) (h:eN nt js wi g tc te σ H Q)
  (fin:∀(acc C:Addr)(H':Hp)(s':AB),Inv X ae σ H' s'->eE X ae H' C->(∃m,s'.heap.Ns C m)->Q (.ref acc) H'->compPost (model X.prog X.w) X.A X.xe use Qc (.ref acc) C (.ok .next) s') :
  wpAny (model X.prog X.w) X.A (comprehension (.ListComp elt [⟨tg,iter,ifs,0⟩] sc pos) sc X.env kp (newList []) false (eval iter X.env) use) Qc X.xe s:=by
 refine wpAny_comprehension_free (use:=use) rfl hs S.clos S.kind S.names ?_;refine cA (hi ae s σ H _ I h) fun v s1 q1=>cA q1 fun itv s2 q2=>?_;obtain⟨it,fp,tn,J,H2,e,I2,T,st2,f2,q3⟩:=q2;subst e;refine qP ?_;obtain⟨W,⟨m0,w0⟩,turn⟩:=q3 s2.heap.objs.size I2.fresh;have I3:=I2.Xw (ys:=[]) (its:=[]) (t':=s2.toks) .nil (eV _)
 have lt2:∀b∈fp,b<s2.heap.objs.size:=fun b hb=>by
  obtain⟨o,ho,_⟩:=T.obj 0 _ st2 b hb;exact bI ho
 generalize e3:({ s2 with heap:=s2.heap.push { cls:=.type "list",data:=.seq ([]:List AA).toArray },toks:=s2.toks }:AB)=s3 at I3
 have e3':({ s2 with heap:=s2.heap.push { cls:=.type "list",dict:=none,data:=.seq ([]:List AA).toArray } }:AB)=s3:=e3
 have sz3:s3.heap.objs.size=s2.heap.objs.size+1:=by rw[<- e3]; exact gf ..
 have st3:tn 0 s3.heap:=T.keep 0 _ _ st2 fun b hb o ho=>by rw[<- e3]; exact cU _ ho
 have lt3:∀b∈fp,b<s3.heap.objs.size:=fun b hb=>by rw[sz3]; exact Bh (lt2 b hb)
 have f3:∀b∈fp,eE X ae (upd H2 s2.heap.objs.size (.lst [])) b:=fun b hb=>⟨by rw[aC (cZ (lt2 b hb))]; exact(f2 b hb).1,(f2 b hb).2⟩
 generalize hH3:upd H2 s2.heap.objs.size (.lst [])=H3 at I3 f3 w0;refine pG ?_;generalize X7:pushCells (s3.heap.push { cls:=.type "dict",data:=.dict #[] }) sc.names=h1;have hk:∀b o,s3.heap.get? b=some o->h1.get? b=some o:=fun b o q=>by rw[<- X7]; exact pushCells_keeps _ _ b o (cU _ q)
 have hns':h1.Ns s3.heap.objs.size fun _=>none:=by rw[<- X7]; exact(Heap.Ns.new s3.heap (.type "dict")).keeps (pushCells_keeps _ _)
 have I4:Inv (oM X N' sc fp s3 H3) [] (List.replicate nt none++bW js σ) H3 { s3 with heap:=h1,toks:=s3.toks }:=zY I3 f3 lt3 S (fun {x c} e=>by
  have:=rD sc.names (s3.heap.push { cls:=.type "dict",data:=.dict #[] }) (qm sc X.env) x c (by rw[gf]; exact e)
  rw[X7,gf] at this
  exact this) hns' hk
 have Z2:tn 0 h1:=T.keep 0 _ _ st3 fun b hb o ho=>hk b o ho;have stat:∀{H':Hp},(∀b∈fp,H' b=none)->∀b∈fp,eE (oM X N' sc fp s3 H3) [] H' b:=fun hn b hb=>⟨hn b hb,cZ (lt3 b hb),I4.ok.HD b hb,.inl hb,(I4.ok.exf b hb).2,fun p hp=>absurd (show p∈([]:List (Addr×Obj)) from hp) (by simp)⟩
 have out:∀{σ':St}{H':Hp}{s':AB},Inv (oM X N' sc fp s3 H3) [] σ' H' s'->Q (.ref s2.heap.objs.size) H'->compPost (model X.prog X.w) X.A X.xe use Qc (.ref s2.heap.objs.size) s3.heap.objs.size (.ok .next) s':=by
  intro σ' H' s' I' q';obtain⟨m,hn,_⟩:=id I'.loc;have I5:Inv X ae σ H' s':=I3.call' I'.os I'.base I'.hok I'.bare fun b hb=>⟨(f3 b hb).2.2.2.1,(f3 b hb).2.1,(f3 b hb).2.2.2.2.1,(f3 b hb).2.2.2.2.2⟩;exact fin _ _ H' s' I5 (I3.nR (bc _) I'.free) ⟨m,hn⟩ q'
 have loop:∀s4:AB,s4={ s3 with heap:=h1,toks:=s3.toks }->codeAny (model X.prog X.w) X.A (.compLoop (.ListComp elt [⟨tg,iter,ifs,0⟩] sc pos) 0 (.ref it) (.ref s2.heap.objs.size) (compEnvC sc (cellsFrom (s3.heap.objs.size+1) sc.names (qm sc X.env)) s3.heap.objs.size X.env))
   (compPost (model X.prog X.w) X.A X.xe use Qc (.ref s2.heap.objs.size) s3.heap.objs.size) s4:=by
  rintro s4 rfl;refine Cv (fun n s'=>∃i ys H',Inv (oM X N' sc fp s3 H3) [] (List.replicate nt none++bW js σ) H' s'/\tn i s'.heap/\(∀b∈fp,H' b=none)/\W i n ys H') ?_ m0 ⟨0,[],H3,I4,Z2,fun b hb=>(f3 b hb).1,w0⟩;rintro n s5 ⟨i,ys,H5,I5,R7,Rv,w5⟩;rcases turn i n ys H5 w5 with⟨stop,qn⟩ | ⟨go,step⟩
  ·refine cA (T.done (oM X N' sc fp s3 H3) rfl rfl rfl hc i [] s5 _ H5 (fun _ _=>False) I5 (stat Rv) R7 stop) fun r s6 qx=>?_;obtain⟨hr,I6⟩:=qx;subst hr;exact out I6 qn
  ·refine cA (T.item (oM X N' sc fp s3 H3) rfl rfl rfl hc i [] s5 _ H5 (fun _ _=>False) I5 (stat Rv) R7 go) fun r s6 qx=>?_;obtain⟨u,hr,q6⟩:=qx;subst hr;refine cA q6 fun _ s7 qx=>?_;obtain⟨y,H7,I7,r7,y7,R6,V0⟩:=qx;have I7':=I7.pinned (stat V0) (T.obj _ _ R6);refine cA (hgt fp s3 H3 _ s7 _ H7 y u _ I7' r7 (step y _ y7)) fun _ s8 qx=>?_;obtain⟨σ8,H8,I8,hsh,q8⟩:=qx;refine cA (hif fp s3 H3 _ s8 _ _ _ I8 q8) fun b s8' qx=>?_;obtain⟨H8',I8',q8'⟩:=qx
   have wk:∀k v,(List.replicate nt none++bW js σ)[k]?=some (some v)->σ8[k]?=some (some v):=fun k v e=>by
    by_cases hlt:k<nt
    ·rw[yd (by rw[pX]; exact hlt),Jv,aV hlt] at e
     cases e
    ·rw[uy (by rw[pX]; omega),pX,<- hsh.1,zM] at e
     rw[show nt+(k-nt)=k by omega] at e
     exact e
   cases b with
   | true=>
    rw[aV rfl] at q8' ⊢;refine cA (he fp s3 H3 _ s8' _ _ _ I8' q8') fun z s9 qx=>?_;obtain⟨vz,H9,I9,r9,ha,hz,m',hm,w9⟩:=qx;refine cA (fX (X:=oM X N' sc fp s3 H3) _ s9 _ H9 (.ref s2.heap.objs.size) [vz] (.ref s2.heap.objs.size) [z] (fun _ H'=>H'=upd H9 s2.heap.objs.size (.lst (ys++[vz]))) I9 rfl (.cons r9 .nil) ⟨_,ys,vz,rfl,rfl,ha,hz,rfl⟩) fun _ Gj qx=>?_;obtain⟨_,Rr,Zh,_,e10⟩:=qx;subst e10;refine⟨m',hm,i+1,ys++[vz],_,(Zh.il).weak hsh.2.symm wk,T.keep _ _ _ R6 fun b hb o e=>(Zh.pin (b,o) (iM _ (iM _ (dg hb e)))).1,fun b hb=>?_,w9⟩;obtain⟨o,e,d⟩:=T.obj _ _ R6 b hb;exact(Zh.pin (b,o) (iM _ (iM _ (dg hb e)))).2.1
   | false=>
    rw[aN ⋯] at q8' ⊢
    obtain⟨m',hm,w9⟩:=q8';refine⟨m',hm,i+1,ys,_,(I8'.il).weak hsh.2.symm wk,T.keep _ _ _ R6 fun b hb o e=>(I8'.pin (b,o) (iM _ (iM _ (dg hb e)))).1,fun b hb=>?_,w9⟩;obtain⟨o,e,d⟩:=T.obj _ _ R6 b hb;exact(I8'.pin (b,o) (iM _ (iM _ (dg hb e)))).2.1
 exact codeAny_compStart_list (loop _ rfl) (T.self X.A 0 _ _ _ Z2 (loop _ rfl))
theorem Px{X:Cx}{elt iter:Expr}{tg:Expr}{ifs:List Expr}{g:TG}{tc:TT}{nt:Nat}{y:Str}{py pos spos:Pos}{sc:Scope}{wi:TI}{te:TE}{N':List Str}{js:List Nat}{i:Nat}(hN:X.N.Nodup)(hi':X.N[i]?=some y)(hy:Loc X.env.scope y)(hc:X.calm=true)(hi:PI X tg iter wi)(S:qC X nt N' js sc)
  (hgt:∀fp s H,PG (oM X N' sc fp s H) tg g) (hif:∀fp s H,De (oM X N' sc fp s H) ifs tc) (he:∀fp s H,PE (oM X N' sc fp s H) elt te) (hs:‹∀x,foldedSetIterable iter X.env x=pure x›) (hw: ~~~(swapsWith (.ListComp elt [⟨tg,iter,ifs,0⟩] sc pos) (some (.Name y py)) spos.line X.env=pure true))
  (hf: autoParam (X.fn y=true\/X.env.scope.names.lookup y=some .local) zd._auto_1) :
  PS X (.Assign [.Name y py] (.ListComp elt [⟨tg,iter,ifs,0⟩] sc pos) spos) (Aq (eN nt js wi g tc te) (fj i)):=by
 symm;intro D I h;rw[exec_Assign_Name_used _ _ _ _ hw];refine aL (Be (aL ?_));refine aL (xH hc hi S hgt hif he hs I h fun acc C H' s' I5 fc ⟨m,hn⟩ q=>?_)
 have ho:∀b∈[C],∃o,s'.heap.get? b=some o/\∀v,o.data≠.cell v:=fun b hb=>by
  rw[dM.mp hb];obtain⟨o,es,n,e,ed,_⟩:=hn;exact⟨o,e,fun v z=>by rw[ed] at z; cases z⟩
 have I6:=I5.pinned (fp:=[C]) (fun b hb=>by rw[dM.mp hb]; exact fc) ho
 have hg:PG X (.Name y py) (fj i):=aF hN hi' hy hf;show wpAny _ _ (assign (.Name y py) X.env (.ref acc)) (fun _ s''=>∃m,s''.heap.Ns C m/\∀h',Heap.SameBut C s''.heap h'->_) _ s';refine cA (hg _ s' _ H' (.ref acc) (.ref acc) _ I6 rfl q) fun _ s7 qx=>?_;obtain⟨σ7,H7,I7,q7⟩:=qx
 have pc:∀o,s'.heap.get? C=some o->s7.heap.get? C=some o/\H7 C=none:=fun o e=>by
  have:=I7.pin (C,o) (iM _ (iM _ (dg (by simp) e)))
  exact⟨this.1,this.2.1⟩
 refine⟨m,hn.at fun o e=>(pc o e).1,fun h' sb=>bL (bL ⟨σ7,H7,?_,q7⟩)⟩
 have fr:H7 C=none:=by
  obtain⟨o,es,n,e,ed,_⟩:=hn;exact(pc o e).2
 exact I7.il.turned (it:=C) (t':=s7.toks) (fun b o hb e=>sb.extBut b o hb e) fr fc.2.1 fc.2.2.2.1 fc.2.2.2.2.1 fc.2.2.2.2.2
theorem Ez{X:Cx}{elt iter tg:Expr}{ifs:List Expr}{g:TG}{tc:TT}{nt:Nat}{pos:Pos}{sc:Scope}{wi:TI}{te:TE}{N':List Str}{js:List Nat}(hc:X.calm=true)(hi:PI X tg iter wi)(S:qC X nt N' js sc)
  (hgt:∀fp s H,PG (oM X N' sc fp s H) tg g) (hif:∀fp s H,De (oM X N' sc fp s H) ifs tc) (he:∀fp s H,PE (oM X N' sc fp s H) elt te) (hs:‹∀x,foldedSetIterable iter X.env x=pure x›):PE X (.ListComp elt [⟨tg,iter,ifs,0⟩] sc pos) (eN nt js wi g tc te):=by
 symm;intro Q I h;rw[eval_ListComp];refine xH (use:=none) hc hi S hgt hif he hs I h fun acc C H' s' I5 fc ⟨m,hn⟩ q=>?_;refine⟨m,hn,fun h' sb=>?_⟩;exact⟨.ref acc,H',I5.turned (it:=C) (t':=s'.toks) (fun b o hb q=>sb.extBut b o hb q) fc.1 fc.2.1 fc.2.2.2.1 fc.2.2.2.2.1 fc.2.2.2.2.2,rfl,q⟩
theorem qC.of{X:Cx}{nt:Nat}{N':List Str}{js:List Nat}{sc:Scope}(k: ~~~(sc.kind=.function))(n: autoParam ((sc.names.all fun y=>y.2 != .cell || sc.names.lookup y.1==some .cell)=true) zh._auto_1)
  (l: autoParam ((sc.names.all fun y=>y.2 != .local || sc.names.lookup y.1==some .local)=true) zh._auto_1) (al: ~~~((sc.names.all fun y=>y.2 != .free || (X.env.cells.lookup y.1).isSome)=true))
  (ln: ~~~(N'.length=nt+js.length)) (cp: ~~~((N'.drop nt).map some=js.map (fun j=>X.N[j]?))) (ck: ~~~(((N'.drop nt).all fun y=>X.env.kindOf y==some .cell&&sc.names.lookup y==some .free)=true)):qC X nt N' js sc:=by
 have n':∀y∈sc.names,y.2=.cell->sc.names.lookup y.1=some .cell:=fun y hy hc=>by
  have:=oY.mp n y hy;rw[hc] at this;simpa using this
 refine⟨k,n',nG l,jC al,al,ln,fun i j h=>?_,fun y h=>?_⟩
 ·have:=lJ (fun l=>l[i]?) cp;simp only[cD,zM,h,zx] at this;cases e:N'[nt+i]? with
  | none=>rw[e] at this; cases this
  | some y=>rw[e] at this; exact Option.some.inj this
 ·have:=oY.mp ck y h;simpa using this
theorem wD{X:Cx}{elt iter:Expr}{tg:Expr}{ifs:List Expr}{g:TG}{tc:TT}{nt:Nat}{y:Str}{py pos spos:Pos}{sc:Scope}{wi:TI}{te:TE}{N':List Str}{js:List Nat}{i:Nat}(hN:X.N.Nodup)(hi':X.N[i]?=some y)(hy:Loc X.env.scope y)(hc:X.calm=true)(hi:PI X tg iter wi)(S:pF X nt N' js sc)
  (hgt:∀fp s H,PG (Rz X N' sc fp s H) tg g) (hif:∀fp s H,De (Rz X N' sc fp s H) ifs tc) (he:∀fp s H,PE (Rz X N' sc fp s H) elt te) (hs:‹∀x,foldedSetIterable iter X.env x=pure x›) (hw: ~~~(swapsWith (.ListComp elt [⟨tg,iter,ifs,0⟩] sc pos) (some (.Name y py)) spos.line X.env=pure true))
  (hf: autoParam (X.fn y=true\/X.env.scope.names.lookup y=some .local) zd._auto_1) :
  PS X (.Assign [.Name y py] (.ListComp elt [⟨tg,iter,ifs,0⟩] sc pos) spos) (Aq (eN nt js wi g tc te) (fj i)):=Px hN hi' hy hc hi S.toD (fun fp s H=>Aa S.lR▸hgt fp s H) (fun fp s H=>Aa S.lR▸hif fp s H) (fun fp s H=>Aa S.lR▸he fp s H) hs hw hf
theorem iz{X:Cx}{elt iter tg:Expr}{ifs:List Expr}{g:TG}{tc:TT}{nt:Nat}{pos:Pos}{sc:Scope}{wi:TI}{te:TE}{N':List Str}{js:List Nat}(hc:X.calm=true)(hi:PI X tg iter wi)(S:pF X nt N' js sc)
  (hgt:∀fp s H,PG (Rz X N' sc fp s H) tg g) (hif:∀fp s H,De (Rz X N' sc fp s H) ifs tc) (he:∀fp s H,PE (Rz X N' sc fp s H) elt te) (hs:‹∀x,foldedSetIterable iter X.env x=pure x›):PE X (.ListComp elt [⟨tg,iter,ifs,0⟩] sc pos) (eN nt js wi g tc te):=Ez hc hi S.toD (fun fp s H=>Aa S.lR▸hgt fp s H) (fun fp s H=>Aa S.lR▸hif fp s H) (fun fp s H=>Aa S.lR▸he fp s H) hs
theorem uq.toG{X:Cx}{N':List Str}{js:List Nat}{sc:Scope}(S:uq X N' js sc):pF X 1 N' js sc:=⟨S.kind,S.lR,S.names,S.clos,S.all,by rw[S.len,Nat.add_comm],fun i j h=>by rw[Nat.add_comm]; exact S.cap i j h,fun y h=>S.Q9 y (by rw[<- List.drop_one]; exact h)⟩
theorem IW{js:List Nat}{wi:TI}{te:TE}:iu js wi te=eN 1 js wi (fj 0) qG te:=by
 funext σ H Q
 have e:∀(x:V)(H3:Hp)(K1:VK)(K2:Hp->Prop),te (some x::bW js σ) H3 K1=fj 0 x (List.replicate 1 none++bW js σ) H3 fun σ' H'=>(σ'.drop 1=bW js σ/\σ'.length=(List.replicate 1 (none:Option V)++bW js σ).length)/\qG σ' H' fun b cQ=>if b=true then te σ' cQ K1 else K2 cQ:=fun x H3 K1 K2=>propext ⟨fun h=>⟨⟨rfl,rfl⟩,h⟩,fun h=>h.2⟩
 unfold iu eN;refine lJ (wi σ H) (funext fun J=>funext fun H1=>?_);refine propext ⟨fun h acc ha=>?_,fun h acc ha=>?_⟩
 ·obtain⟨W,h0,hs⟩:=h acc ha;refine⟨W,h0,fun i m ys H2 w=>(hs i m ys H2 w).imp id fun z=>⟨z.1,fun x H3 y=>?_⟩⟩;have:=z.2 x H3 y;rw[e x H3 _ fun cQ=>∃m',m'<m/\W (i+1) m' ys cQ] at this;exact this
 ·obtain⟨W,h0,hs⟩:=h acc ha;refine⟨W,h0,fun i m ys H2 w=>(hs i m ys H2 w).imp id fun z=>⟨z.1,fun x H3 y=>?_⟩⟩;rw[e x H3 _ fun cQ=>∃m',m'<m/\W (i+1) m' ys cQ];exact z.2 x H3 y
theorem dH{X:Cx}{elt iter:Expr}{x:Str}{px pos:Pos}{sc:Scope}{wi:TI}{te:TE}{N':List Str}{js:List Nat}(hc:X.calm=true)(hi:PI X (.Name x px) iter wi)(S:uq X N' js sc)(h0:N'[0]?=some x)(nd:N'.Nodup)
  (hx:sc.names.lookup x=some .local) (he:∀fp s H,PE (Rz X N' sc fp s H) elt te) (hs:‹∀x,foldedSetIterable iter X.env x=pure x›):PE X (.ListComp elt [⟨.Name x px,iter,[],0⟩] sc pos) (iu js wi te):=by
 rw[IW];exact iz hc hi S.toG (fun _ _ _=>aF nd h0 (.inl (fJ hx)) (.inr (fJ hx))) (fun _ _ _=>gH) he hs
theorem S9{X:Cx}{elt iter:Expr}{x y:Str}{px py pos spos:Pos}{sc:Scope}{wi:TI}{te:TE}{N':List Str}{js:List Nat}{i:Nat}(hN:X.N.Nodup)(hi':X.N[i]?=some y)(hy:Loc X.env.scope y)(hc:X.calm=true)(hi:PI X (.Name x px) iter wi)(S:uq X N' js sc)(h0:N'[0]?=some x)(nd:N'.Nodup)
  (hx:sc.names.lookup x=some .local) (he:∀fp s H,PE (Rz X N' sc fp s H) elt te) (hs:‹∀x,foldedSetIterable iter X.env x=pure x›) (hw: ~~~(swapsWith (.ListComp elt [⟨.Name x px,iter,[],0⟩] sc pos) (some (.Name y py)) spos.line X.env=pure true))
  (hf: autoParam (X.fn y=true\/X.env.scope.names.lookup y=some .local) zd._auto_1) :
  PS X (.Assign [.Name y py] (.ListComp elt [⟨.Name x px,iter,[],0⟩] sc pos) spos) (Aq (iu js wi te) (fj i)):=by
 rw[IW];exact wD hN hi' hy hc hi S.toG (fun _ _ _=>aF nd h0 (.inl (fJ hx)) (.inr (fJ hx))) (fun _ _ _=>gH) he hs hw hf
theorem pF.of{X:Cx}{nt:Nat}{N':List Str}{js:List Nat}{sc:Scope}(k: ~~~(sc.kind=.function))(n: autoParam ((sc.names.all fun y=>y.2 != .cell)=true) zh._auto_1)
  (l: autoParam ((sc.names.all fun y=>y.2 != .local || sc.names.lookup y.1==some .local)=true) zh._auto_1) (al: ~~~((sc.names.all fun y=>y.2 != .free || (X.env.cells.lookup y.1).isSome)=true))
  (ln: ~~~(N'.length=nt+js.length)) (cp: ~~~((N'.drop nt).map some=js.map (fun j=>X.N[j]?))) (ck: ~~~(((N'.drop nt).all fun y=>X.env.kindOf y==some .cell&&sc.names.lookup y==some .free)=true)):pF X nt N' js sc:=by
 have n':∀y∈sc.names,y.2≠.cell:=fun y hy=>by have:=oY.mp n y hy; simpa using this
 refine⟨k,n',nG l,jC al,al,ln,fun i j h=>?_,fun y h=>?_⟩
 ·have:=lJ (fun l=>l[i]?) cp;simp only[cD,zM,h,zx] at this;cases e:N'[nt+i]? with
  | none=>rw[e] at this; cases this
  | some y=>rw[e] at this; exact Option.some.inj this
 ·have:=oY.mp ck y h;simpa using this
section
variable{prog:AC}{w:World}{A:Around}{E:AA->AB->Prop}{s:AB}
theorem _root_.PySem.Heap.ExtBut.trans'{b:Addr}{h h1 h2:Heap}(x:Heap.ExtBut b h h1)(y:∀c o,h1.get? c=some o->h2.get? c=some o):Heap.ExtBut b h h2:=fun c o n e=>y c o (x c o n e)
theorem yZ{α:Type}{Q:α->AB->Prop}(hh:A.handled=none)(q:∀h' x,(∀c o,s.heap.get? c=some o->h'.get? c=some o)->(∃o,h'.get? x=some o/\o.cls=.type "StopIteration")->E (.ref x) { s with heap:=h' }) :
  wpAny (model prog w) A (Builtin.SmallTypes.stopIteration (α:=α)) Q E s:=by
 unfold Builtin.SmallTypes.stopIteration;refine aL ?_;simp only[newExc,newTuple];refine aL (qP ?_ (by size_fits)); refine aL (m:=firstArgMember _ _) (wj (a:=Value.none) (by rfl) ?_)
 refine qP ?_ (by size_fits); simp only[raiseNew]
 refine aL (wpAny_handled ?_); rw[hh];refine aL (bL (wpAny_throw ?_)); refine q _ _ (fun c o e=>?_) ⟨_,cI _ rfl,rfl⟩;exact cU _ (cU _ e)
theorem Xj{it t:Addr}{i:Nat}{its:Array AA}{u:AA}{Q:AA->AB->Prop}(hi:s.heap.IsTupleIter it t i)(ht:s.heap.IsTuple t its)(hu:its[i]?=some u)
  (q:∀h',h'.IsTupleIter it t (i+1)->Heap.SameBut it s.heap h'->Q u { s with heap:=h' }):wpAny (model prog w) A (Builtin.SmallTypes.nextOf (.ref it)) Q E s:=by
 obtain⟨oi,gi,ci,di⟩:=id hi;obtain⟨ot,gt,_,nt,dt⟩:=ht;have ty:=hi.typeIs;have nn:¬((Value.ref t==Value.none)=true):=fun z=>Bool.noConfusion (show false=true from z);unfold Builtin.SmallTypes.nextOf;refine aL (yc (name:=Str.ofString "__next__") ty F.slot_tuple_iterator_next (sO F.slot_tuple_iterator_next ty F.entry_tuple_iterator_next ?_ (F.args_tuple_iterator_next_1 _)));show wpAny _ _ (field (.ref it) 0 >>= _) _ _ s; refine aL (gF gi di (x:=.ref t) rfl ?_);show wpAny _ _ (if(Value.ref t==Value.none)=true then _ else _) _ _ s; rw[aN nn]
 show wpAny _ _ (field (.ref it) 1 >>= _) _ _ s; refine aL (gF gi di (x:=.int i 0) rfl ?_);show wpAny _ _ (seqItems? (.ref t) >>= _) _ _ s; refine aL (oW gt dt ?_);simp only[qN,hu];have fin:∀h',(∃o,h'.get? it=some o/\o.cls=.type "tuple_iterator" /\ o.data=.fields #[.ref t,.int ((i+1:Nat):Int) 0])->Heap.SameBut it s.heap h'->Q u { s with heap:=h' }:=fun h' z sb=>q h' z sb
 refine aL (DQ gi di (by simp) (bL ⟨u,rfl,bL (fin _ ?_ (Js ..))⟩))
 refine⟨_,ux _ gi (Obj.isFreed_of_fields (Obj.data_mapFields di _)),(Obj.cls_mapFields ..).trans ci,?_⟩;rw[Obj.data_mapFields di];simp[rawInt]
theorem T7{it t:Addr}{i:Nat}{its:Array AA}{Q:AA->AB->Prop}(hh:A.handled=none)(hi:s.heap.IsTupleIter it t i)(ht:s.heap.IsTuple t its)(hu:its[i]?=none)
  (q:∀h' x,Heap.ExtBut it s.heap h'->(∃o,h'.get? x=some o/\o.cls=.type "StopIteration")->E (.ref x) { s with heap:=h' }):wpAny (model prog w) A (Builtin.SmallTypes.nextOf (.ref it)) Q E s:=by
 obtain⟨oi,gi,ci,di⟩:=id hi;obtain⟨ot,gt,_,nt,dt⟩:=ht;have ty:=hi.typeIs;have nn:¬((Value.ref t==Value.none)=true):=fun z=>Bool.noConfusion (show false=true from z);unfold Builtin.SmallTypes.nextOf;refine aL (yc (name:=Str.ofString "__next__") ty F.slot_tuple_iterator_next (sO F.slot_tuple_iterator_next ty F.entry_tuple_iterator_next ?_ (F.args_tuple_iterator_next_1 _)));show wpAny _ _ (field (.ref it) 0 >>= _) _ _ s; refine aL (gF gi di (x:=.ref t) rfl ?_);show wpAny _ _ (if(Value.ref t==Value.none)=true then _ else _) _ _ s; rw[aN nn]
 show wpAny _ _ (field (.ref it) 1 >>= _) _ _ s; refine aL (gF gi di (x:=.int i 0) rfl ?_);show wpAny _ _ (seqItems? (.ref t) >>= _) _ _ s; refine aL (oW gt dt ?_);simp only[qN,hu];refine aL (ur (aL (DQ gi di (by simp) ?_)))
 exact yZ (A:=A.in1) hh fun h' x k z=>q h' x ((Js ..).extBut.trans' k) z
end
theorem Mu{prog:AC}{w:World}{A:Around}(hh:A.handled=none){it t:Addr}(ne:t≠it)(its:Array AA):Draws prog w A it [it,t] its.size (fun i v=>its[i]?=some v) (fun i h=>h.IsTupleIter it t i/\h.IsTuple t its) where
 live:=fun i h z=>let ⟨⟨o,e,_⟩,_⟩:=z; ⟨o,e⟩
 frame:=fun i h h' z k=>⟨z.1.at fun o e=>k it eX o e,z.2.at fun o e=>k t (dX _ eX) o e⟩
 item:=fun i s Q E hi z q=>by
  refine Xj z.1 z.2 (u:=its[i]) (Jy hi) fun h' z' sb=>?_;exact q _ h' s.toks (Jy hi) ⟨z',z.2.extBut sb.extBut ne⟩ sb
 done:=fun s Q E z q=>T7 hh z.1 z.2 (by simp) q
abbrev tiH(h:Heap)(t:Addr):Heap:=h.push { cls:=.type "tuple_iterator",data:=.fields #[.ref t,.int 0 0] }
section
variable{X:Cx}
end
structure V7(z TI TO i1 i2:Addr)(f1 f2:List Addr):Prop where
 a1:TI≠z
 a2:TO≠z
 a3:TI≠TO
 a4:i1≠z
 a5:i2≠z
 a6:TO≠i1
 a7:TO≠i2
 a8:i1≠i2
 b1:z∉f1
 b2:z∉f2
 b3:TO∉f1
 b4:TO∉f2
 b5:i1∉f2
 b6:i2∉f1
section
variable{prog:AC}{w:World}{A:Around}{E:AA->AB->Prop}{s:AB}
theorem Di{b:Addr}{h h':Heap}{f:List Addr}(sb:Heap.SameBut b h h')(hb:b∉f):∀c∈f,∀o,h.get? c=some o->h'.get? c=some o:=fun c hc o e=>sb.extBut c o (fun z=>hb (z▸hc)) e
theorem Nu{z TI TO i1 i2:Addr}{f1 f2:List Addr}{n1 n2 k:Nat}{P1 P2:Nat->AA->Prop}{S1 S2:Nat->Heap->Prop}{a b:AA}{Q:AA->AB->Prop}(Z:V7 z TI TO i1 i2 f1 f2)(D1:Draws prog w A i1 f1 n1 P1 S1)(D2:Draws prog w A i2 f2 n2 P2 S2)
  (hz:IsZip s.heap z TI TO .none) (hi:IsPair s.heap TI (.ref i1) (.ref i2)) (ho:IsPair s.heap TO a b) (s1:S1 k s.heap) (s2:S2 k s.heap) (k1:k<n1) (k2:k<n2)
  (q:∀x y h' tk,P1 k x->P2 k y->IsZip h' z TI TO (rawInt s.heap.objs.size)->IsPair h' TO x y->S1 (k+1) h'->S2 (k+1) h'->IsPair h' s.heap.objs.size x y->h'.objs.size=s.heap.objs.size+1->(∀c o,c≠z->c≠TO->c≠i1->c≠i2->s.heap.get? c=some o->h'.get? c=some o)->Q (.ref s.heap.objs.size) { s with heap:=h',toks:=tk }) :
  wpAny (model prog w) A (Builtin.«zip.__next__» ⟨[.ref z],[]⟩) (fun fin s'=>∃v,fin=.done (.ret v)/\Q v s') E s:=by
 show wpAny _ _ (field (.ref z) 2 >>= _) _ _ _; refine aL (gF hz rfl (x:=.bool false) rfl ?_);show wpAny _ _ (field (.ref z) 3 >>= _) _ _ _; refine aL (gF hz rfl (x:=.ref TI) rfl (aL (oW hi rfl ?_)));show wpAny _ _ (Builtin.SmallTypes.ownedTupleIsFree (.ref z) >>= _) _ _ _; unfold Builtin.SmallTypes.ownedTupleIsFree;refine aL (aL (gF hz rfl (x:=.none) rfl (bL ?_))); simp only[if_true];refine aL (ur (aL (gF hz rfl (x:=.ref TO) rfl (aL (G6 hz (by simp) fun hA zA sA=>?_)))))
 replace zA:IsZip hA z TI TO .ellipsis:=zA
 refine aL ?_; simp only[List.zipIdx_cons,List.zipIdx_nil,DR,Ef];refine aL (aL (wpAny_onRaise ?_)); show wpAny _ _ (Builtin.SmallTypes.nextOf (.ref i1) >>= _) _ _ _;refine aL (D1.item k _ _ _ k1 (D1.frame _ _ _ s1 (Di sA Z.b1)) fun x hB tB pB stb sB=>bL ?_);have oB:IsPair hB TO a b:=sB.extBut _ _ Z.a6 (sA.extBut _ _ Z.a2 ho);have uB:S2 k hB:=D2.frame _ _ _ (D2.frame _ _ _ s2 (Di sA Z.b2)) (Di sB Z.b5);refine aL (oW oB rfl (aL (wpAny_updateSeq_pair oB fun hC oC sC=>?_)))
 replace oC:IsPair hC TO x b:=oC
 refine aL (tY (bL (aL (aL (wpAny_onRaise ?_))))); show wpAny _ _ (Builtin.SmallTypes.nextOf (.ref i2) >>= _) _ _ _;refine aL (D2.item k _ _ _ k2 (D2.frame _ _ _ uB (Di sC Z.b4)) fun y hD tD pD std sD=>bL ?_);have oD:IsPair hD TO x b:=sD.extBut _ _ Z.a7 oC;refine aL (oW oD rfl (aL (wpAny_updateSeq_pair oD fun hF oF sF=>?_)))
 replace oF:IsPair hF TO x y:=oF
 refine aL (tY (bL (bL (aL (oW oF rfl (aL (wpAny_newTuple ?_)))))));have zF:IsZip hF z TI TO .ellipsis:=sF.extBut _ _ Z.a2.symm (sD.extBut _ _ Z.a5.symm (sC.extBut _ _ Z.a2.symm (sB.extBut _ _ Z.a4.symm zA)));have size:hF.objs.size=s.heap.objs.size:=by rw[sF.1,sD.1,sC.1,sB.1,sA.1]
 have lz:z<hF.objs.size:=bI zF;show wpAny _ _ (Builtin.SmallTypes.ownedTupleHandOut (.ref z) (.ref hF.objs.size) >>= _) _ _ _; unfold Builtin.SmallTypes.ownedTupleHandOut;have zG:IsZip (hF.push { cls:=.type "tuple",data:=.seq #[x,y] }) z TI TO .ellipsis:=cU _ zF;refine aL (aL (G6 zG (by simp) fun hI zI sI=>?_))
 replace zI:IsZip hI z TI TO (rawInt hF.objs.size):=zI
 refine G6 zI (by simp) fun hJ zJ sJ=>bL ⟨_,rfl,?_⟩
 replace zJ:IsZip hJ z TI TO (rawInt hF.objs.size):=zJ
 have up:∀c o,c≠z->hF.get? c=some o->hJ.get? c=some o:=fun c o n e=>sJ.extBut _ _ n (sI.extBut _ _ n (cU _ e));have tJ:IsPair hJ hF.objs.size x y:=sJ.extBut _ _ (xY lz) (sI.extBut _ _ (xY lz) (cI _ rfl));have szJ:hJ.objs.size=hF.objs.size+1:=by rw[sJ.1,sI.1,gf]
 have kB:∀c o,c≠z->c≠TO->c≠i1->c≠i2->s.heap.get? c=some o->hF.get? c=some o:=fun c o n1 n2 n3 n4 e=>sF.extBut _ _ n2 (sD.extBut _ _ n4 (sC.extBut _ _ n2 (sB.extBut _ _ n3 (sA.extBut _ _ n1 e))));have u1:S1 (k+1) hF:=D1.frame _ _ _ (D1.frame _ _ _ (D1.frame _ _ _ stb (Di sC Z.b3)) (Di sD Z.b6)) (Di sF Z.b3);have u2:S2 (k+1) hF:=D2.frame _ _ _ std (Di sF Z.b4);show Q (.ref hF.objs.size) _;rw[size] at zJ tJ szJ ⊢;exact q x y hJ tD pB pD zJ (up _ _ Z.a2 oF) (D1.frame _ _ _ u1 fun c hc o e=>up c o (fun z'=>Z.b1 (z'▸hc)) e) (D2.frame _ _ _ u2 fun c hc o e=>up c o (fun z'=>Z.b2 (z'▸hc)) e) tJ szJ fun c o n1 n2 n3 n4 e=>up c o n1 (kB c o n1 n2 n3 n4 e)
theorem Ks{z TI TO i1 i2:Addr}{f1 f2:List Addr}{n1 n2 k:Nat}{P1 P2:Nat->AA->Prop}{S1 S2:Nat->Heap->Prop}{a b:AA}{Q:Fin->AB->Prop}(Z:V7 z TI TO i1 i2 f1 f2)(D1:Draws prog w A i1 f1 n1 P1 S1)(D2:Draws prog w A i2 f2 n2 P2 S2)
  (hz:IsZip s.heap z TI TO .none) (hi:IsPair s.heap TI (.ref i1) (.ref i2)) (ho:IsPair s.heap TO a b) (s1:S1 k s.heap) (s2:S2 k s.heap) (kk:k=n1\/(k<n1/\k=n2))
  (q:∀h' e,(∀c o,c≠z->c≠TO->c≠i1->c≠i2->s.heap.get? c=some o->h'.get? c=some o)->(∃o,h'.get? e=some o/\o.cls=.type "StopIteration")->∀tk,E (.ref e) { s with heap:=h',toks:=tk }) :
  wpAny (model prog w) A (Builtin.«zip.__next__» ⟨[.ref z],[]⟩) Q E s:=by
 show wpAny _ _ (field (.ref z) 2 >>= _) _ _ _; refine aL (gF hz rfl (x:=.bool false) rfl ?_);show wpAny _ _ (field (.ref z) 3 >>= _) _ _ _; refine aL (gF hz rfl (x:=.ref TI) rfl (aL (oW hi rfl ?_)));show wpAny _ _ (Builtin.SmallTypes.ownedTupleIsFree (.ref z) >>= _) _ _ _; unfold Builtin.SmallTypes.ownedTupleIsFree;refine aL (aL (gF hz rfl (x:=.none) rfl (bL ?_))); simp only[if_true];refine aL (ur (aL (gF hz rfl (x:=.ref TO) rfl (aL (G6 hz (by simp) fun hA zA sA=>?_)))))
 replace zA:IsZip hA z TI TO .ellipsis:=zA
 refine aL ?_; simp only[List.zipIdx_cons,List.zipIdx_nil,DR,Ef];refine aL (aL (wpAny_onRaise ?_)); show wpAny _ _ (Builtin.SmallTypes.nextOf (.ref i1) >>= _) _ _ _;rcases kk with e1 | ⟨k1,e2⟩
 ·have s1':=s1;rw[e1] at s1';refine aL (D1.done _ _ _ (D1.frame _ _ _ s1' (Di sA Z.b1)) fun hB x sB hx=>?_);obtain⟨ox,gx,cx⟩:=hx;have zB:IsZip hB z TI TO .ellipsis:=sB _ _ Z.a4.symm zA;have nx:x≠z:=fun y=>by subst y; rw[zB] at gx; cases gx; exact absurd (show Value.type "zip" = Value.type "StopIteration" from cx) ⋯
  refine G6 zB (by simp) fun hC _ sC=>q hC x (fun c o m1 _ m3 _ e=>sC.extBut _ _ m1 (sB _ _ m3 (sA.extBut _ _ m1 e))) ⟨ox,sC.extBut _ _ nx gx,cx⟩ _
 ·refine aL (D1.item k _ _ _ k1 (D1.frame _ _ _ s1 (Di sA Z.b1)) fun x hB tB pB stb sB=>bL ?_);have oB:IsPair hB TO a b:=sB.extBut _ _ Z.a6 (sA.extBut _ _ Z.a2 ho);have uB:S2 k hB:=D2.frame _ _ _ (D2.frame _ _ _ s2 (Di sA Z.b2)) (Di sB Z.b5);refine aL (oW oB rfl (aL (wpAny_updateSeq_pair oB fun hC oC sC=>?_)));refine aL (tY (bL (aL (aL (wpAny_onRaise ?_))))); show wpAny _ _ (Builtin.SmallTypes.nextOf (.ref i2) >>= _) _ _ _;have uC:S2 n2 hC:=by rw[<- e2]; exact D2.frame _ _ _ uB (Di sC Z.b4)
  refine aL (D2.done _ _ _ uC fun hD v sD hx=>?_);obtain⟨ox,gx,cx⟩:=hx;have zD:IsZip hD z TI TO .ellipsis:=sD _ _ Z.a5.symm (sC.extBut _ _ Z.a2.symm (sB.extBut _ _ Z.a4.symm zA));have nx:v≠z:=fun y=>by subst y; rw[zD] at gx; cases gx; exact absurd (show Value.type "zip" = Value.type "StopIteration" from cx) ⋯
  refine G6 zD (by simp) fun hF _ sF=>q hF v (fun c o m1 m2 m3 m4 e=>sF.extBut _ _ m1 (sD _ _ m4 (sC.extBut _ _ m2 (sB.extBut _ _ m3 (sA.extBut _ _ m1 e))))) ⟨ox,sF.extBut _ _ nx gx,cx⟩ _
theorem Nt{z TI TO i1 i2:Addr}{f1 f2:List Addr}{n1 n2 k:Nat}{P1 P2:Nat->AA->Prop}{S1 S2:Nat->Heap->Prop}{a b:AA}{Q:Option AA->AB->Prop}(Z:V7 z TI TO i1 i2 f1 f2)(D1:Draws prog w A.in1 i1 f1 n1 P1 S1)(D2:Draws prog w A.in1 i2 f2 n2 P2 S2)
  (hz:IsZip s.heap z TI TO .none) (hi:IsPair s.heap TI (.ref i1) (.ref i2)) (ho:IsPair s.heap TO a b) (s1:S1 k s.heap) (s2:S2 k s.heap) (k1:k<n1) (k2:k<n2)
  (q:∀x y h' tk,P1 k x->P2 k y->IsZip h' z TI TO (rawInt s.heap.objs.size)->IsPair h' TO x y->S1 (k+1) h'->S2 (k+1) h'->IsPair h' s.heap.objs.size x y->h'.objs.size=s.heap.objs.size+1->(∀c o,c≠z->c≠TO->c≠i1->c≠i2->s.heap.get? c=some o->h'.get? c=some o)->Q (some (.ref s.heap.objs.size)) { s with heap:=h',toks:=tk }) :
  wpAny (model prog w) A (pyNext (.ref z)) Q E s:=by
 have ty:s.TypeIs (.ref z) "zip" := ⟨_,hz,rfl⟩;unfold pyNext;refine aL (Ed (yc (name:=Str.ofString "__next__") ty F.slot_zip_next (sO F.slot_zip_next ty F.entry_zip_next ?_ (F.args_zip_next_1 _))));exact Nu Z D1 D2 hz hi ho s1 s2 k1 k2 fun x y h' tk p1 p2 v1 v2 v3 v4 v5 v6 v7=>bL (q x y h' tk p1 p2 v1 v2 v3 v4 v5 v6 v7)
theorem Ip{z TI TO i1 i2:Addr}{f1 f2:List Addr}{n1 n2 k:Nat}{P1 P2:Nat->AA->Prop}{S1 S2:Nat->Heap->Prop}{a b:AA}{Q:Option AA->AB->Prop}(Z:V7 z TI TO i1 i2 f1 f2)(D1:Draws prog w A.in1 i1 f1 n1 P1 S1)(D2:Draws prog w A.in1 i2 f2 n2 P2 S2)
  (hz:IsZip s.heap z TI TO .none) (hi:IsPair s.heap TI (.ref i1) (.ref i2)) (ho:IsPair s.heap TO a b) (s1:S1 k s.heap) (s2:S2 k s.heap) (kk:k=n1\/(k<n1/\k=n2))
  (q:∀h' tk,(∀c o,c≠z->c≠TO->c≠i1->c≠i2->s.heap.get? c=some o->h'.get? c=some o)->Q none { s with heap:=h',toks:=tk }):wpAny (model prog w) A (pyNext (.ref z)) Q E s:=by
 have ty:s.TypeIs (.ref z) "zip" := ⟨_,hz,rfl⟩;unfold pyNext;refine aL (Ed (yc (name:=Str.ofString "__next__") ty F.slot_zip_next (sO F.slot_zip_next ty F.entry_zip_next ?_ (F.args_zip_next_1 _))));refine Ks Z D1 D2 hz hi ho s1 s2 kk fun h' e k hx tk=>?_;obtain⟨o,g,c⟩:=hx;exact aL (wpAny_isInstance (T:="StopIteration") (b:=true) ⟨o,g,c⟩ isSubtype_stop (bL (q _ tk k)))
end
abbrev zA2(h:Heap)(t1 t2:Addr):Heap:=tiH (tiH h t1) t2
abbrev zA3(h:Heap)(t1 t2:Addr):Heap:=(zA2 h t1 t2).push { cls:=.type "tuple",data:=.seq #[.ref h.objs.size,.ref (tiH h t1).objs.size] }
abbrev zA4(h:Heap)(t1 t2:Addr):Heap:=(zA3 h t1 t2).push { cls:=.type "tuple",data:=.seq #[.none,.none] }
abbrev Wh(h:Heap)(t1 t2:Addr):Heap:=(zA4 h t1 t2).push { cls:=.type "zip",data:=.fields #[.none,.bool false,.bool false,.ref (zA2 h t1 t2).objs.size,.ref (zA3 h t1 t2).objs.size] }
theorem Ua(t1 t2:Addr)(xs ys:Array AA):Meets (Builtin.«zip.__new__» ⟨[.type "zip",.ref t1,.ref t2],[]⟩) (fun _ R s=>s.heap.IsTuple t1 xs/\s.heap.IsTuple t2 ys/\R (.ok (.ret (.ref (zA4 s.heap t1 t2).objs.size))) { s with heap:=Wh s.heap t1 t2 }):=
 .of_wp fun prog w A R s z=>by
  obtain⟨hp,g,d,tk,os⟩:=s;obtain⟨hx,hy,z⟩:=z;have sub:=sub_zip;have hX:Heap.IsTuple (Shared.heap ⟨hp,g,d,tk,os⟩) t1 xs:=hx;have hY:Heap.IsTuple (Shared.heap ⟨tiH hp t1,g,d,tk,os⟩) t2 ys:=hy.push _
  wp_walk using Ep hX,Ep hY
  exact⟨_,rfl,z⟩
theorem Mz{prog:AC}{w:World}{A:Around}{E:AA->AB->Prop}{s:AB}{t1 t2:Addr}{xs ys:Array AA}{Q:AA->AB->Prop}(hx:s.heap.IsTuple t1 xs)(hy:s.heap.IsTuple t2 ys)
  (q:∀h',IsZip h' (s.heap.objs.size+4) (s.heap.objs.size+2) (s.heap.objs.size+3) .none->IsPair h' (s.heap.objs.size+2) (.ref s.heap.objs.size) (.ref (s.heap.objs.size+1))->IsPair h' (s.heap.objs.size+3) .none .none ->
   h'.IsTupleIter s.heap.objs.size t1 0->h'.IsTupleIter (s.heap.objs.size+1) t2 0->(∀c o,s.heap.get? c=some o->h'.get? c=some o)->Q (.ref (s.heap.objs.size+4)) { s with heap:=h' }) :
  wpAny (model prog w) A (call (.type "zip") [.ref t1,.ref t2]) Q E s:=by
 have n1:(tiH s.heap t1).objs.size=s.heap.objs.size+1:=gf ..;have n2:(zA2 s.heap t1 t2).objs.size=s.heap.objs.size+2:=by rw[gf,n1]
 have n3:(zA3 s.heap t1 t2).objs.size=s.heap.objs.size+3:=by rw[gf,n2]
 have n4:(zA4 s.heap t1 t2).objs.size=s.heap.objs.size+4:=by rw[gf,n3]
 have up:∀c o,s.heap.get? c=some o->(Wh s.heap t1 t2).get? c=some o:=fun c o e=>cU _ (cU _ (cU _ (cU _ (cU _ e))));have v5:(Wh s.heap t1 t2).get? (zA4 s.heap t1 t2).objs.size=some _:=cI _ rfl;have v4:(Wh s.heap t1 t2).get? (zA3 s.heap t1 t2).objs.size=some _:=cU _ (cI _ rfl);have v3:(Wh s.heap t1 t2).get? (zA2 s.heap t1 t2).objs.size=some _:=cU _ (cU _ (cI _ rfl));have v2:(Wh s.heap t1 t2).get? (tiH s.heap t1).objs.size=some _:=cU _ (cU _ (cU _ (cI _ rfl)));have v1:(Wh s.heap t1 t2).get? s.heap.objs.size=some _:=cU _ (cU _ (cU _ (cU _ (cI _ rfl))));refine callType_new F.called_zip ⋯ (F.typeCall_zip_2 _ _) (F.newCall_zip_2 _ _) (fun x=>F.args_object_init_3 x _ _) F.entry_zip_new (Ua t1 t2 xs ys) ⟨hx,hy,?_⟩
 show _/\_;rw[n2,n3,n4] at v5;rw[n1,n2] at v3;rw[n3] at v4;rw[n1] at v2;rw[n4];exact⟨⟨_,v5,rfl⟩,q _ v5 v3 v4 ⟨_,v1,rfl,rfl⟩ ⟨_,v2,rfl,rfl⟩ up⟩
theorem Inv.lE{X:Cx}{ae:List (Addr×Obj)}{σ:St}{H:Hp}{s:AB}{h':Heap}{t':Nat}{fp:List Addr}(I:Inv X ae σ H s)(k:∀b o,b∉fp->s.heap.get? b=some o->h'.get? b=some o)(hf:∀b∈fp,eE X ae H b) :
  Inv X ae σ H { s with heap:=h',toks:=t' }:=by
 have ni:∀b u,H b=some u->b∉fp:=fun b u q hb=>by rw[(hf b hb).1] at q; cases q
 refine I.step (g':=s.gens) (d':=s.drawn) (ch:=fp) (fun b hb=>?_) (fun b o _ _ hc q _=>k b o hc q) (fun b o _ _ hc q _=>⟨o.slots,k b o hc q⟩) (fun _ _ _ _ n=>n) (fun b o hc q=>⟨o,k b o hc q⟩) (fun _ _ q=>q) (fun _ _ _ q=>q)
  (fun b ps q=>⟨#[],by rw[q]; simp⟩) (fun m hm=>?_) (fun b u q=>?_) I.bare
 ·obtain⟨_,f1,_,f3,f4,f5⟩:=hf b hb;exact⟨f3,(hf b hb).2.1,f4,f5⟩
 ·obtain⟨o,es,ep,ho,r⟩:=hm;exact⟨o,es,ep,k _ o (fun hb=>(hf _ hb).2.1 rfl) ho,r⟩
 ·refine(I.hok b u q).stay (fun c v hc z=>k c v ?_ z) (fun _ z=>z) fun _ _ z=>z;rcases hc with z | z
  ·rw[z]; exact ni b u q
  ·exact ni c _ z
theorem Z3{X:Cx}{ae:List (Addr×Obj)}{σ:St}{H:Hp}{s:AB}{a b:Addr}{xs:List V}(I:Inv X ae σ H s)(hq:dU X.K H a xs)(hf:eE X ae H b):a≠b:=fun z=>by
 rcases hq with h | ⟨o,its,n,hk,_⟩
 ·rcases h with h | ⟨o,h⟩ <;> (rw[z,hf.1] at h; cases h)
 ·have e:X.base.get? a=some o:=I.ok.mod.Qq a o hk;rcases hf.2.2.2.1 with y | y
  ·exact I.ok.Fi a o e (z▸y)
  ·have l:=bI e;have m:=I.ok.M4;rw[z] at l;exact absurd (nC l (jJ m y)) (pU _)
structure Knd where
 Sq:Frag->Hp->Addr->List V->Prop
 It:Heap->Addr->Addr->Nat->Prop
 Pl:Heap->Addr->Array AA->Prop
 obj:∀{h:Heap}{i a:Addr}{n:Nat},It h i a n->∃o,h.get? i=some o/\∀v,o.data≠.cell v
 keep:∀{h h':Heap}{i a:Addr}{n:Nat},It h i a n->(∀o,h.get? i=some o->h'.get? i=some o)->It h' i a n
 inv:∀{X:Cx}{ae:List (Addr×Obj)}{σ:St}{H:Hp}{s:AB}{a:Addr}{xs:List V},Inv X ae σ H s->Sq X.K H a xs->∃us:List AA,Vals xs us/\Pl s.heap a us.toArray
 inj:∀{X:Cx}{ae:List (Addr×Obj)}{σ:St}{H:Hp}{s:AB}{a:Addr}{xs ys:List V},Inv X ae σ H s->Sq X.K H a xs->Sq X.K H a ys->xs=ys
 ne:∀{X:Cx}{ae:List (Addr×Obj)}{σ:St}{H:Hp}{s:AB}{a b:Addr}{xs:List V},Inv X ae σ H s->Sq X.K H a xs->eE X ae H b->a≠b
 dr:∀{prog:AC}{w:World}{A:Around},A.handled=none->∀{i a:Addr},a≠i->∀us:Array AA,Draws prog w A i [i,a] us.size (fun n v=>us[n]?=some v) (fun n h=>It h i a n/\Pl h a us)
def kT:Knd:=⟨fun K=>dU K,fun h i a n=>h.IsTupleIter i a n,fun h a us=>h.IsTuple a us,fun⟨o,g,_,d⟩=>⟨o,g,fun v q=>by rw[d] at q; cases q⟩,fun g k=>g.at k,fun I h=>(I.tuple h).elim fun us p=>⟨us,p.1,p.2.1⟩,fun I h h'=>I.yS h h',fun I h f=>Z3 I h f,fun hh _ _ n us=>Mu hh n us⟩
def Ys(k1 k2:Knd)(K:Frag)(a b:Addr):It:=
 ⟨fun i H=>∃xs ys x y,k1.Sq K H a xs/\k2.Sq K H b ys/\xs[i]?=some x/\ys[i]?=some y,fun i H v H'=>∃p x y,H p=none/\v=.ref p/\H'=upd H p (.tup [x,y])/\(∀xs,k1.Sq K H a xs->xs[i]?=some x)/\∀ys,k2.Sq K H b ys->ys[i]?=some y,
  fun i H=>∃xs ys,k1.Sq K H a xs/\k2.Sq K H b ys/\(i=xs.length\/(i<xs.length/\i=ys.length))⟩
structure aez(k1 k2:Knd)(z TI TO i1 i2 a b:Addr)(i:Nat)(h:Heap):Prop where
 z:IsZip h z TI TO .none
 p:IsPair h TI (.ref i1) (.ref i2)
 o:∃x y,IsPair h TO x y
 l:k1.It h i1 a i
 r:k2.It h i2 b i
abbrev abB:=Ys kT kT
theorem yR(k1 k2:Knd){P:AC}{w:World}{K:Frag}{elts:List Expr}{x1}{tp:Pos}(a b z TI TO i1 i2:Addr)(n1:TI≠z)(n2:TO≠z)(n3:TI≠TO)(n4:i1≠z)(n5:i2≠z)(n6:TO≠i1)(n7:TO≠i2)(n8:i1≠i2)(n9:TI≠i1)(n10:TI≠i2) :
  Turn P w K (.Tuple elts x1 tp) (Ys k1 k2 K a b) [z,TI,TO,i1,i2] z (aez k1 k2 z TI TO i1 i2 a b) where
 mem:=by simp
 obj:=fun i h st c hc=>by
  obtain⟨g1,g2,⟨x,y,g3⟩,g4,g5⟩:=st;simp only[bK,fD,or_false] at hc;rcases hc with rfl | rfl | rfl | rfl | rfl
  ·exact⟨_,g1,fun v q=>by cases q⟩
  ·exact⟨_,g2,fun v q=>by cases q⟩
  ·exact⟨_,g3,fun v q=>by cases q⟩
  ·exact k1.obj g4
  ·exact k2.obj g5
 keep:=fun i h h' st k=>by
  obtain⟨g1,g2,⟨x,y,g3⟩,g4,g5⟩:=st;exact⟨k z (by simp) _ g1,k TI (by simp) _ g2,⟨x,y,k TO (by simp) _ g3⟩,k1.keep g4 fun o e=>k i1 (by simp) o e,k2.keep g5 fun o e=>k i2 (by simp) o e⟩
 item:=by
  intro X hP hw hK hc i ae s σ H E I hf st hg;subst hP hw hK;obtain⟨g1,g2,⟨xo,yo,g3⟩,g4,g5⟩:=st;obtain⟨xs,ys,x,y,hx,hy,ex,ey⟩:=hg;obtain⟨us,ru,pu⟩:=k1.inv I hx;obtain⟨vs,rv,pv⟩:=k2.inv I hy;obtain⟨u,hu,ru'⟩:=ru.get ex;obtain⟨v,hv,rv'⟩:=rv.get ey;have ha:∀c∈[z,TI,TO,i1,i2],a≠c:=fun c hc=>k1.ne I hx (hf c hc);have hb:∀c∈[z,TI,TO,i1,i2],b≠c:=fun c hc=>k2.ne I hy (hf c hc);have hh:X.A.in1.handled=none:=I.ok.hd hc;have Z:V7 z TI TO i1 i2 [i1,a] [i2,b]:=⟨n1,n2,n3,n4,n5,n6,n7,n8,by simp; exact⟨n4.symm,(ha z (by simp)).symm⟩,by simp; exact⟨n5.symm,(hb z (by simp)).symm⟩,by simp; exact⟨n6,(ha TO (by simp)).symm⟩,by simp; exact⟨n7,(hb TO (by simp)).symm⟩,by simp; exact⟨n8,(hb i1 (by simp)).symm⟩,by simp; exact⟨n8.symm,(ha i2 (by simp)).symm⟩⟩
  refine Nt Z (k1.dr hh (ha i1 (by simp)) us.toArray) (k2.dr hh (hb i2 (by simp)) vs.toArray) g1 g2 g3 (show _/\_ from⟨g4,pu⟩) (show _/\_ from⟨g5,pv⟩) (by have:=(iW.mp hu).1; simpa using this) (by have:=(iW.mp hv).1; simpa using this)
   fun u' v' h' tk hu' hv' z1 z2 z3 z4 z5 z6 kk=>?_
  have eu:u'=u:=by
   have:us[i]?=some u':=by simpa using hu'
   rw[hu] at this; exact(Option.some.inj this).symm
  have ev:v'=v:=by
   have:vs[i]?=some v':=by simpa using hv'
   rw[hv] at this; exact(Option.some.inj this).symm
  subst eu ev;have fr:H s.heap.objs.size=none:=I.hok.fresh (bc _)
  have I1:Inv X ae σ (upd H s.heap.objs.size (.tup [x,y])) { s with heap:=s.heap.push { cls:=.type "tuple",data:=.seq #[u',v'] },toks:=tk }:=
   I.laid (t':=tk) (fun b v z=>cU _ z) (bc _) ⟨(by show 2<=sizeLine; decide),[u',v'],.cons ru' (.cons rv' .nil),⟨_,cI _ rfl,rfl,_,rfl⟩⟩
  have lt:∀c∈[z,TI,TO,i1,i2],c<s.heap.objs.size:=fun c hc=>by
   simp only[bK,fD,or_false] at hc;rcases hc with rfl | rfl | rfl | rfl | rfl
   ·exact bI g1
   ·exact bI g2
   ·exact bI g3
   ·obtain⟨o,e,_⟩:=k1.obj g4; exact bI e
   ·obtain⟨o,e,_⟩:=k2.obj g5; exact bI e
  have f1:∀c∈[z,TI,TO,i1,i2],eE X ae (upd H s.heap.objs.size (.tup [x,y])) c:=fun c hc=>⟨by rw[aC (cZ (lt c hc))]; exact(hf c hc).1,(hf c hc).2⟩
  have I2:Inv X ae σ (upd H s.heap.objs.size (.tup [x,y])) { s with heap:=h',toks:=tk }:=I1.lE (t':=tk) (fun c o nc e=>by
   have m:∀d∈[z,TI,TO,i1,i2],c≠d:=fun d hd y=>nc (y▸hd);by_cases y:c=s.heap.objs.size
   ·subst y;rw[cI _ rfl] at e;cases e;exact z5
   ·rcases Heap.get?_push_cases e with w | w
    ·exact absurd w.1 y
    ·exact kk c o (m z (by simp)) (m TO (by simp)) (m i1 (by simp)) (m i2 (by simp)) w) f1
  have g2':IsPair h' TI (.ref i1) (.ref i2):=kk _ _ n1 n3 n9 n10 g2;refine⟨_,rfl,wpAny_letOwnedTupleGo_zip z1 fun h2 zz sb=>⟨.ref s.heap.objs.size,_,I2.lE (fp:=[z,TI,TO,i1,i2]) (t':=tk) (fun c o nc e=>sb.extBut c o (fun y=>nc (by simp[y])) e) f1,rfl,⟨_,x,y,fr,rfl,rfl,fun xs' h=>by rw[k1.inj I h hx]; exact ex,fun ys' h=>by rw[k2.inj I h hy]; exact ey⟩,⟨zz,sb.extBut _ _ n1 g2',⟨_,_,sb.extBut _ _ n2 z2⟩,?_,?_⟩,fun c hc=>(f1 c hc).1⟩⟩
  ·exact k1.keep z3.1 fun o e=>sb.extBut i1 o n4 e
  ·exact k2.keep z4.1 fun o e=>sb.extBut i2 o n5 e
 done:=by
  intro X hP hw hK hc i ae s σ H E I hf st hg;subst hP hw hK;obtain⟨g1,g2,⟨xo,yo,g3⟩,g4,g5⟩:=st;obtain⟨xs,ys,hx,hy,hl⟩:=hg;obtain⟨us,ru,pu⟩:=k1.inv I hx;obtain⟨vs,rv,pv⟩:=k2.inv I hy;have ha:∀c∈[z,TI,TO,i1,i2],a≠c:=fun c hc=>k1.ne I hx (hf c hc);have hb:∀c∈[z,TI,TO,i1,i2],b≠c:=fun c hc=>k2.ne I hy (hf c hc);have hh:X.A.in1.handled=none:=I.ok.hd hc;have Z:V7 z TI TO i1 i2 [i1,a] [i2,b]:=⟨n1,n2,n3,n4,n5,n6,n7,n8,by simp; exact⟨n4.symm,(ha z (by simp)).symm⟩,by simp; exact⟨n5.symm,(hb z (by simp)).symm⟩,by simp; exact⟨n6,(ha TO (by simp)).symm⟩,by simp; exact⟨n7,(hb TO (by simp)).symm⟩,by simp; exact⟨n8,(hb i1 (by simp)).symm⟩,by simp; exact⟨n8.symm,(ha i2 (by simp)).symm⟩⟩
  have l1:=ru.length;have l2:=rv.length;refine Ip Z (k1.dr hh (ha i1 (by simp)) us.toArray) (k2.dr hh (hb i2 (by simp)) vs.toArray) g1 g2 g3 (show _/\_ from⟨g4,pu⟩) (show _/\_ from⟨g5,pv⟩) (by simp; omega) fun h' tk kk=>⟨rfl,I.lE (fp:=[z,TI,TO,i1,i2]) (t':=tk) (fun c o nc e=>?_) hf⟩
  have m:∀d∈[z,TI,TO,i1,i2],c≠d:=fun d hd y=>nc (y▸hd);exact kk c o (m z (by simp)) (m TO (by simp)) (m i1 (by simp)) (m i2 (by simp)) e
 self:=fun _ _ _ _ _ st h=>Jm st.z h
section
variable{X:Cx}
def Qz(K:Frag)(ta:TA):TI:=fun σ H R=>ta σ H fun vs H1=>∃a b,vs=[.ref a,.ref b]/\(∃xs,dU K H1 a xs)/\(∃ys,dU K H1 b ys)/\R (abB K a b) H1
theorem Td{K:Frag}{e e':Expr}{elts:List Expr}{x1}{tp p pos:Pos}{ta:TA}(hK:X.K=K)(hm:X.mg "zip" = none)(ha:PA X [e,e'] ta)(hg: ~~~(Gl X "zip"))(h1: ~~~(bJ e=true))(h2: ~~~(bJ e'=true)) :
  PI X (.Tuple elts x1 tp) (.Call (.Name "zip" p) [e,e'] [] pos) (Qz K ta):=by
 subst hK;symm;intro R I h;refine qQ (gZ I hg hm Ia ?_ ⋯ ⋯)
 refine PyProof.Rows.callWith_type1 (cA (ha pos ae s σ H _ I h) fun us s1 ⟨vs,H1,I1,r1,q1⟩=>?_) (bU h1) (b7 (es:=[e']) (by simp[h2]))
 obtain⟨a,b,rfl,⟨xs,hx⟩,⟨ys,hy⟩,q⟩:=q1;obtain⟨u,v,rfl,ru,rv⟩:=r1.two;cases ru;cases rv;obtain⟨us,_,pu,_⟩:=I1.tuple hx;obtain⟨ws,_,pw,_⟩:=I1.tuple hy;refine Mz (show s1.heap.IsTuple a us.toArray from pu) (show s1.heap.IsTuple b ws.toArray from pw) fun h' hz hp ho h1 h2 kk=>?_;have I2:Inv X ae σ H1 { s1 with heap:=h' }:=I1.kept (t':=s1.toks) kk
 have fr:∀n,H1 (s1.heap.objs.size+n)=none:=fun n=>I1.hok.fresh (zH _ _);have fk:∀n,eE X ae H1 (s1.heap.objs.size+n):=fun n=>I1.nR (zH _ _) (fr n);have ne:∀i j:Nat,i≠j->s1.heap.objs.size+i≠s1.heap.objs.size+j:=fun i j n e=>n (Nat.add_left_cancel e);refine Jm hz ⟨s1.heap.objs.size+4,_,_,abB X.K a b,H1,rfl,I2,yR kT kT a b (s1.heap.objs.size+4) (s1.heap.objs.size+2) (s1.heap.objs.size+3) s1.heap.objs.size (s1.heap.objs.size+1) (ne _ _ ⋯) (ne _ _ ⋯) (ne _ _ ⋯) (ne 0 _ ⋯) (ne _ _ ⋯) (ne _ 0 ⋯) (ne _ _ ⋯) (ne 0 _ ⋯) (ne _ 0 ⋯) (ne _ _ ⋯),⟨hz,hp,⟨_,_,ho⟩,h1,h2⟩,fun c hc=>?_,q⟩
 simp only[bK,fD,or_false] at hc;rcases hc with rfl | rfl | rfl | rfl | rfl
 ·exact fk 4
 ·exact fk 2
 ·exact fk 3
 ·exact fk 0
 ·exact fk 1
end
abbrev two(elt t1 i1 t2 i2:Expr)(sc:Scope)(pos:Pos):Expr:=.ListComp elt [⟨t1,i1,[],0⟩,⟨t2,i2,[],0⟩] sc pos
section
variable{prog:AC}{w:World}{A:Around}{R:Result->AB->Prop}{s:AB}{elt t1 i1 t2 i2:Expr}{sc:Scope}{pos:Pos}{it acc:AA}{env:Env}
end
theorem bQ{X:Cx}{K:Frag}{pos:Pos}{es:List Expr}{k:Nat}{t:Rm}{n:Nat}(hK:X.K=K)(hc:X.calm=true)(h:Yp X es t)
  (hn: ~~~((assignEach es X.env).length=n)) (hst: ~~~((assignEach es X.env).findIdx? (·.1)=none)):PG X (.Tuple es k pos) (Mp K n t):=by
 subst hK;exact Xa hc h hn hst
theorem uW{X:Cx}{K:Frag}{tg l:Expr}{tl:TE}(hK:X.K=K)(hl:PE X l tl):PI X tg l (Ft K tl):=by
 subst hK;exact WY hl
theorem bV{X:Cx}{K:Frag}{tg l:Expr}{tl:TE}(hK:X.K=K)(hl:PE X l tl):PI X tg l (nJ K tl):=by
 subst hK;exact Th hl
theorem xJ{K:Frag}{js:List Nat}{J:It}{te:TE}{σ:St}{H:Hp}{Q:VK}{acc:Addr}{es:List PyData}(xv yv:Nat->V)(hz:es.length<=sizeLine)(hL:bG es=true)(hacc:H acc=none)
  (go:∀i H',i<es.length->aJ H H'->J.go i H') (yl:∀i H' v cQ,i<es.length->aJ H H'->J.Dm i H' v cQ->∃p,H' p=none/\v=.ref p/\cQ=upd H' p (.tup [xv i,yv i])) (st:∀H',aJ H H'->J.stop es.length H')
  (val:∀(i:Nat) e H',es[i]?=some e->aJ H H'->∀R:VK,(∀v cQ,aJ H' cQ->At cQ e v->R v cQ)->te (some (xv i)::some (yv i)::bW js σ) H' R)
  (fin:∀ys H',aJ H H'->H' acc=some (.lst ys)->aj (hid acc H') es ys->Q (.ref acc) H') :
  ∃W:Nat->Nat->List V->Hp->Prop,(∃m,W 0 m [] (upd H acc (.lst [])))/\∀i m ys H2,W i m ys H2 ->
   (J.stop i H2/\Q (.ref acc) H2)\/(J.go i H2/\∀x H3,J.Dm i H2 x H3->Mp K 2 (jQ (fj 0) (jQ (fj 1) Cp)) x (List.replicate 2 none++bW js σ) H3 fun σ' H'=>(σ'.drop 2=bW js σ/\σ'.length=(List.replicate 2 (none:Option V)++bW js σ).length)/\qG σ' H' fun b cQ=>
    if b=true then te σ' cQ fun y H4=>H4 acc=some (.lst ys)/\ys.length<sizeLine/\∃m',m'<m/\W (i+1) m' (ys++[y]) (upd H4 acc (.lst (ys++[y]))) else ∃m',m'<m/\W (i+1) m' ys cQ):=by
 refine⟨fun i m ys H2=>m=es.length-i/\i<=es.length/\aj (hid acc H2) (es.take i) ys/\aJ H H2/\H2 acc=some (.lst ys),⟨_,rfl,eV _,aj.nil,aM hacc _,aB⟩,?_⟩;rintro i m ys H2 ⟨rfl,hi,hA,sm,hy⟩;by_cases hlt:i<es.length
 ·refine .inr ⟨go i H2 hlt sm,fun x H3 y=>?_⟩;obtain⟨p,fp,rfl,rfl⟩:=yl i H2 x H3 hlt sm y;refine⟨p,_,rfl,dU.of aB,rfl,(show(_=_/\_=_)/\qG _ _ _ from⟨⟨rfl,by simp⟩,?_⟩)⟩
  unfold qG;simp only[if_true];have e1:es[i]?=some es[i]:=cN hlt;have s3:aJ H2 (upd H2 p (.tup [xv i,yv i])):=aM fp _;refine val i _ _ e1 (sm.trans s3) _ fun v H4 s4 a4=>⟨s4 _ _ (s3 _ _ hy),?_,es.length-(i+1),∅,rfl,hlt,?_,?_,aB⟩
  ·rw[hA.length,iJ]; omega
  ·rw[vf,List.take_succ,e1];exact aj.append (hA.mono (aJ.hid (s3.trans s4))) (aj.cons (At.Hv (s4 _ _ (s3 _ _ hy)) _ _ (Hj hL e1) a4) aj.nil)
  ·refine fun b o q=>?_;have nb:b≠acc:=cC q hacc;rw[aC nb];exact s4 _ _ (s3 _ _ (sm _ _ q))
 ·have e:i=es.length:=by omega
  subst e;rw[mV] at hA;exact .inl ⟨st _ sm,fin _ _ sm hy hA⟩
theorem Mw{K:Frag}{js:List Nat}{a b:Addr}{xs ys:List V}{es:List PyData}{ta:TA}{te:TE}{σ:St}{H:Hp}{Q:VK}(hl:∀R:List V->Hp->Prop,R [.ref a,.ref b] H->ta σ H R)(ha:H a=some (.tup xs))(hb:H b=some (.tup ys))(n1:xs.length=es.length)(n2:ys.length=es.length)(hz:es.length<=sizeLine)(hL:bG es=true)
  (val:∀(i:Nat) x y e H',xs[i]?=some x->ys[i]?=some y->es[i]?=some e->aJ H H'->∀R:VK,(∀v cQ,aJ H' cQ->At cQ e v->R v cQ)->te (some x::some y::bW js σ) H' R)
  (fin:∀acc zs H',aJ H H'->H acc=none->H' acc=some (.lst zs)->aj (hid acc H') es zs->Q (.ref acc) H'):eN 2 js (Qz K ta) (Mp K 2 (jQ (fj 0) (jQ (fj 1) Cp))) qG te σ H Q:=by
 refine hl _ ⟨a,b,rfl,⟨xs,dU.of ha⟩,⟨ys,dU.of hb⟩,fun acc hacc=>?_⟩;have gx:∀i,i<es.length->xs[i]?=some (xs.getD i .non):=fun i hi=>by rw[iI,cN ∅]; rfl
 have gy:∀i,i<es.length->ys[i]?=some (ys.getD i .non):=fun i hi=>by rw[iI,cN ∅]; rfl
 refine xJ (es:=es) (fun i=>xs.getD i .non) (fun i=>ys.getD i .non) hz hL hacc (fun i H' hi s=>⟨xs,ys,_,_,dU.of (s _ _ ha),dU.of (s _ _ hb),gx i hi,gy i hi⟩) (fun i H' v cQ hi s y=>?_) (fun H' s=>⟨xs,ys,dU.of (s _ _ ha),dU.of (s _ _ hb),.inl n1.symm⟩) (fun i e H' he s R hR=>?_) fun zs H' s h1 h2=>fin acc zs H' s hacc h1 h2
 ·obtain⟨p,x,y,fp,e1,e2,h1,h2⟩:=y;have q1:=h1 xs (dU.of (s _ _ ha));have q2:=h2 ys (dU.of (s _ _ hb));rw[gx i hi] at q1;rw[gy i hi] at q2;cases q1;cases q2;exact⟨p,fp,e1,e2⟩
 ·have hi:i<es.length:=by
   by_cases z:i<es.length
   ·exact z
   ·rw[Lf ∅] at he; cases he
  exact val i _ _ e H' (gx i hi) (gy i hi) he s R hR
section
variable{X:Cx}{ae:List (Addr×Obj)}{σ:St}{H:Hp}{s:AB}{A:Around}{E:AA->AB->Prop}{Q:AA->AB->Prop}{b:Bool}
theorem Hs{x:V}{u t:AA}{tp:Addr}{its:List AA}(I:Inv X ae σ H s)(rx:RelV x u)(ty:qw X.K H x t)(htp:IsTup s.heap tp its.toArray)(e:kitAny X.K t its=some b)(h:∀tk,Q (.bool b) { s with toks:=tk }) :
  wpAny (model X.prog X.w) A (call (.builtin "isinstance") [u,.ref tp]) Q E s:=by
 obtain⟨o,ho,hc,n,hd⟩:=htp;obtain⟨cls,dd,data,sl⟩:=o;cases hc;cases hd;cases ty with
 | non=>cases(show u=Value.none from rx); exact kia_tup kitx_none I.lg True.intro ho e (fun z=>nomatch z) h
 | bl y=>cases(show u=Value.bool y from rx); exact kia_tup kitx_bool I.lg True.intro ho e (fun z=>nomatch z) h
 | int i=>obtain⟨t,q⟩:=(show ∃t,u=Value.int i t from rx); cases q; exact kia_tup kitx_int I.lg True.intro ho e (fun z=>nomatch z) h
 | str y=>obtain⟨t,q⟩:=(show ∃t,u=Value.str y t from rx); cases q; exact kia_tup kitx_str I.lg True.intro ho e (fun z=>nomatch z) h
 | flt y=>obtain⟨t,q⟩:=(show ∃t,u=Value.float y t from rx); cases q; exact kia_tup kitx_float I.lg True.intro ho e (fun z=>nomatch z) h
 | @lst a xs ea=>
  cases(show u=Value.ref a from rx);obtain⟨_,_,n,_,h1⟩:=(show bM X.prog X.w H s.heap a (.lst xs) from I.hok a _ ea);exact kia_tup kitx_list I.lg ⟨_,h1,rfl⟩ ho e (fun z=>nomatch z) h
 | @kE a ob xs ea=>
  cases(show u=Value.ref a from rx);obtain⟨_,_,_,n,_,h1⟩:=(show bM X.prog X.w H s.heap a (.kE ob (.lst xs)) from I.hok a _ ea);exact kia_tup kitx_list I.lg ⟨_,h1,rfl⟩ ho e (fun z=>nomatch z) h
 | @tup a xs ea=>
  cases(show u=Value.ref a from rx);obtain⟨_,_,_,p⟩:=(show bM X.prog X.w H s.heap a (.tup xs) from I.hok a _ ea);obtain⟨o,h1,h2,_⟩:=p;exact kia_tup kitx_tuple I.lg ⟨o,h1,h2⟩ ho e (fun z=>nomatch z) h
 | @dK a kvs ea=>
  cases(show u=Value.ref a from rx);obtain⟨_,_,vs,_,p⟩:=(show bM X.prog X.w H s.heap a (.dK kvs) from I.hok a _ ea);obtain⟨o,es,ep,h1,h2,_⟩:=p;exact kia_tup kitx_dict I.lg ⟨o,h1,h2.1⟩ ho e (fun z=>nomatch z) h
 | @dT a kvs ea=>
  cases(show u=Value.ref a from rx);obtain⟨_,_,xs,_,o,es,ep,h1,h2,_⟩:=(show bM X.prog X.w H s.heap a (.dT kvs) from I.hok a _ ea);exact kia_tup kitx_dict I.lg ⟨o,h1,h2.1⟩ ho e (fun z=>nomatch z) h
 | @ins a C dx fs ea cl ha hn htk hm=>
  cases(show u=Value.ref a from rx);obtain⟨mA,O,_⟩:=qZ I.hok ea;obtain⟨od,J,_⟩:=O.look;exact kia_tup (kitx_own (cl.get _) cl.hd ha hn htk hm) I.lg J ho e (fun z=>nomatch z) h
end
section
variable{X:Cx}
theorem Xy(K:Frag)(d:PyData):kitAny K (.type (N8 d)) [.type "list",.type "tuple"]=some (ug d || isTup d):=by
 show(match kitOne K (.type (N8 d)) (.type "list") with | some true=>some true | some false=>(match kitOne K (.type (N8 d)) (.type "tuple") with | some true=>some true | some false=>some false | none=>none) | none=>none)=_
 rw[Ca,JV];cases ug d <;> cases isTup d <;> rfl
theorem XJ:cJ X (.builtin "isinstance") (fun vs H Q=>∃(v:V)(d:PyData)(p:Addr),vs=[v,.ref p]/\At H d v/\H p=some (.tup [.ty "list",.ty "tuple"])/\Q (.bl (ug d || isTup d)) H):=by
 symm;intro vs us Q I r h;obtain⟨v,d,p,rfl,hv,hp,q⟩:=h;obtain⟨u,t,rfl,ru,rt⟩:=r.two;cases(show t=Value.ref p from rt);obtain⟨_,its,ri,ht⟩:=(show bM X.prog X.w H s.heap p (.tup [.ty "list",.ty "tuple"]) from I.hok p _ hp)
 have e:its=[Value.type "list",Value.type "tuple"]:=by
  obtain⟨a,b,rfl,ra,rb⟩:=ri.two;cases(show a=Value.type "list" from ra);cases(show b=Value.type "tuple" from rb);rfl
 subst e;exact Hs I ru (hv.ty (K:=X.K)) ht (Xy X.K d) fun tk=>⟨.bl (ug d || isTup d),H,I.tok tk,rfl,q⟩
end
section
variable{X:Cx}
def tNo:TS:=fun _ _ _=>False
theorem Ew{st:Stmt}:PS X st tNo:=.mk <| fun _ _ _ _ _ _ h=>h.elim
end
def adO:V->Option Str
 | .int i=>if i.natAbs.log2<1920 then some (Str.ofString (toString i)) else none
 | .str z=>some z
 | _=>none
def tFv(te:TE):TE:=fun σ H Q=>te σ H fun x H1=>∃z,adO x=some z/\z.length<=sizeLine/\Q (.str z) H1
abbrev TJ:=Str->St->Hp->(Str->Hp->Prop)->Prop
section
variable{X:Cx}
structure PJ(X:Cx)(es:List Expr)(t:TJ):Prop where
 mk ::
 go:∀(acc:Str)(ae:List (Addr×Obj))(s:AB)(σ:St)(H:Hp)(R:Str->Hp->Prop),Inv X ae σ H s->t acc σ H R ->
  Joins (model X.prog X.w) X.A X.xe (evalEach es X.env) acc (fun out s'=>∃H',Inv X ae σ H' s'/\R out H') s
def tJ0:TJ:=fun acc _ H R=>R acc H
def tJ1(te:TE)(t:TJ):TJ:=fun acc σ H R=>te σ H fun x H1=>∃y,x=.str y/\(acc++y).length<=sizeLine/\t (acc++y) σ H1 R
def tJs(t:TJ):TE:=fun σ H Q=>t Str.empty σ H fun out H'=>out.length<=sizeLine/\Q (.str out) H'
def acZ:V->Option Int->Option Int->Hp->VK->Prop:=fun x lo hi H Q=>∃z,x=.str z/\z.length<=sizeLine/\Q (.str (Txt.slice z lo hi)) H
theorem O3:Yl X acZ:=by
 symm;intro x v vl vu lo hi sl Q I rx hs pl pu h;obtain⟨z,rfl,hz,q⟩:=h;obtain⟨t,rfl⟩:=rx;have key:∀t' k,EP X ae σ Q (.str (Txt.slice z lo hi) t') { s with toks:=k }:=fun t' k=>⟨.str _,H,I.tok _,⟨t',rfl⟩,q⟩
 refine⟨"str",_,PySem.F.slot_str_getitem.lookup,typeIs_str _ _ _,?_⟩;cases pl with
 | none=>
  cases pu with
  | none=>exact Jw (l:=none) (u:=none) (st:=none) hs rfl (post_val_or_str ⟨jJ (Txt.slice_le z _ _) hz,key⟩)
  | int j uj=>exact Jw (l:=none) (u:=some (j,uj)) (st:=none) hs rfl (post_val_or_str ⟨jJ (Txt.slice_le z _ _) hz,key⟩)
 | int i ui=>
  cases pu with
  | none=>exact Jw (l:=some (i,ui)) (u:=none) (st:=none) hs rfl (post_val_or_str ⟨jJ (Txt.slice_le z _ _) hz,key⟩)
  | int j uj=>exact Jw (l:=some (i,ui)) (u:=some (j,uj)) (st:=none) hs rfl (post_val_or_str ⟨jJ (Txt.slice_le z _ _) hz,key⟩)
theorem vI:∀{zs:List Str}{us:List AA},Vals (zs.map V.str) us->StrsAre us zs
 | [],_,.nil=>.nil
 | z::zs,_,.cons ⟨t,e⟩ r=>by subst e; exact .cons z t (vI r)
theorem RX(sep:Str)(zs:List Str):Txt.join sep zs=Str.join sep zs:=by
 match zs with
 | []=>exact(StrLaws.glued_eq_join sep [])
 | [x]=>rfl
 | x::y::r=>exact StrLaws.glued_eq_join sep (x::y::r)
def rJoin:V->List V->Hp->VK->Prop:=fun x xs H Q=>∃(sep:Str)(p:Addr)(zs:List Str),x=.str sep/\xs=[.ref p]/\H p=some (.lst (zs.map V.str))/\(zs.map (·.length)).sum+zs.length*sep.length<=16777216/\Q (.str (Str.join sep zs)) H
theorem JP:MtR X "str.join" rJoin:=by
 intro ae s σ H x xs v us Q I rx rs h;obtain⟨sep,p,zs,rfl,rfl,hp,hz,q⟩:=h;obtain⟨t,rfl⟩:=rx;obtain⟨u,rfl,ru⟩:=rs.one;cases ru;obtain⟨_,its,n,rv,e1⟩:=(show bM X.prog X.w H s.heap p (.lst (zs.map V.str)) from I.hok p _ hp);refine join_list (D:=p) (items:=its.toArray) ⟨_,e1,rfl,n,rfl⟩ (by simpa using vI rv) hz fun t' k=>⟨.str _,H,I.tok _,⟨t',rfl⟩,?_⟩
 rw[RX];exact q
def Its(z:Str):It:=⟨fun i _=>i<z.length,fun i H x H'=>H'=H/\∃c,z.cps[i]?=some c/\x=.str ⟨#[c]⟩,fun i _=>z.length<=i⟩
theorem Oa{P:AC}{w:World}{K:Frag}{tg:Expr}(z:Str)(t:Tok)(it:Addr):Turn P w K tg (Its z) [it] it (fun i h=>h.IsStrIter it "str_ascii_iterator" z t i) where
 mem:=by simp
 obj:=fun i h st b hb=>by
  have e:b=it:=by simpa using hb
  subst e;obtain⟨o,e,c,d⟩:=st;exact⟨o,e,fun v z=>by rw[d] at z; cases z⟩
 keep:=fun i h h' st k=>by
  obtain⟨o,e,c,d⟩:=st;exact⟨o,k it (by simp) o e,c,d⟩
 item:=by
  intro X hP hw hK hc i ae s σ H E I hf st hg;subst hP hw hK;have hx:z.cps[i]?=some (z.cps[i]'hg):=Jy hg;obtain⟨f0,f1,f2,f3,f4,f5⟩:=hf it (by simp)
  refine wpAny_pyNext_ascii_item st hx fun h' st' sb=>?_;have I1:Inv X ae σ H { s with heap:=h',toks:=s.toks+1 }:=I.turned (fun b o hb e=>(sb.2 b hb).trans e) f0 f1 f3 f4 f5
  obtain⟨o,e,c,d⟩:=id st';exact⟨_,rfl,xm (s:={ s with heap:=h',toks:=s.toks+1 }) e c d ⋯ ⟨.str _,H,I1,⟨_,rfl⟩,⟨rfl,_,hx,rfl⟩,st',fun b hb=>(hf b hb).1⟩⟩
 done:=by
  intro X hP hw hK hc i ae s σ H E I hf st hg;subst hP hw hK;obtain⟨f0,f1,f2,f3,f4,f5⟩:=hf it (by simp)
  exact wpAny_pyNext_ascii_end (I.ok.hd hc) st (Array.getElem?_eq_none hg) fun h' eb=>⟨rfl,I.turned (t':=s.toks) (fun b o hb e=>eb b o hb e) f0 f1 f3 f4 f5⟩
 self:=fun _ _ _ _ _ st h=>wpAny_pyIter_striter_ascii st h
def aaY(tl:TE):TI:=fun σ H R=>tl σ H fun x H1=>∃z,x=.str z/\z.cps.all (· < 128)=true/\R (Its z) H1
theorem W9{tg l:Expr}{tl:TE}(hl:PE X l tl):PI X tg l (aaY tl):=by
 symm;intro R I h;refine cA (hl ae s σ H _ I h) fun v s1 qx=>?_;obtain⟨x,H1,I1,r1,q1⟩:=qx;obtain⟨z,e,ha,q⟩:=q1;subst e;obtain⟨t,rfl⟩:=r1;refine wpAny_pyIter_ascii ha ?_;refine⟨s1.heap.objs.size,[s1.heap.objs.size],_,_,H1,rfl,I1.kept (t':=s1.toks) fun b o e=>cU _ e,Oa z t _,⟨_,cI _ rfl,rfl,rfl⟩,fun b hb=>?_,q⟩;have e:b=s1.heap.objs.size:=by simpa using hb
 subst e;exact I1.nR (bc _) (I1.hok.fresh (bc _))
def acL(K:Frag)(ta:TE):TT:=fun σ H Q=>ta σ H fun x H'=>∃k,aeB K x H' k/\Q k H'
end
def tx(l:List Nat):Str:=⟨l.toArray⟩
theorem vy(l:List Nat):(tx l).cps.toList=l:=by simp[tx]
theorem fu(l:List Nat):(tx l).length=l.length:=by show l.toArray.size=_; simp
theorem ZF{z:Str}{l:List Nat}(h:z.cps.toList=l):z=tx l:=by subst h; cases z; simp[tx]
theorem vA(a b:List Nat):tx a++tx b=tx (a++b):=ZF (by rw[PySem.W.KT.app_list,vy,vy])
theorem Wl{a b:List Nat}(h:tx a=tx b):a=b:=by have:=lJ (fun z:Str=>z.cps.toList) h; simpa[vy] using this
theorem Wk(c:Nat):(⟨#[c]⟩:Str)=tx [c]:=rfl
def jn(sep:List Nat):List (List Nat)->List Nat
 | []=>[]
 | [x]=>x
 | x::y::r=>x++sep++jn sep (y::r)
theorem JW(sep:List Nat):∀ls:List (List Nat),Str.join (tx sep) (ls.map tx)=tx (jn sep ls)
 | []=>rfl
 | [x]=>rfl
 | x::y::r=>by
  show tx x++tx sep++Str.join (tx sep) ((y::r).map tx)=_;rw[JW sep (y::r),vA,vA];rfl
theorem Yc{js:List Nat}{l:List Nat}{f:Nat->Bool}{tl te:TE}{σ:St}{H:Hp}{Q:VK}(hl:∀R:VK,R (.str (tx l)) H->tl σ H R)(ha:∀c∈l,c<128)(hz:l.length<=sizeLine)
  (step:∀c H',aJ H H'->∀R:VK,(∀cQ,aJ H' cQ->R (.bl (f c)) cQ)->te (some (.str (tx [c]))::bW js σ) H' R)
  (fin:∀acc H',aJ H H'->H' acc=some (.lst ((l.map f).map V.bl))->Q (.ref acc) H'):iu js (aaY tl) te σ H Q:=by
 refine hl _ ⟨tx l,rfl,?_,fun acc hacc=>?_⟩
 ·show l.toArray.all (· < 128)=true;simpa using ha
 have len:(tx l).length=l.length:=fu l;refine⟨fun i m ys H2=>m=l.length-i/\i<=l.length/\ys=((l.take i).map f).map V.bl/\aJ H H2/\H2 acc=some (.lst ys),⟨_,rfl,eV _,rfl,aM hacc _,aB⟩,?_⟩;rintro i m ys H2 ⟨rfl,hi,rfl,sm,hy⟩;by_cases hlt:i<l.length
 ·refine .inr ⟨show i<(tx l).length by omega,fun x H3 y=>?_⟩
  obtain⟨e,c,hc,ex⟩:=y;subst e ex;have hc':l[i]?=some c:=by simpa[tx] using hc
  refine step c _ sm _ fun H4 s4=>⟨s4 _ _ hy,?_,l.length-(i+1),∅,rfl,hlt,?_,?_,aB⟩
  ·rw[bZ,bZ,iJ]; omega
  ·rw[List.take_succ,hc']; simp
  ·refine fun b o q=>?_;have nb:b≠acc:=cC q hacc;rw[aC nb];exact s4 _ _ (sm _ _ q)
 ·have e:i=l.length:=by omega
  subst e;refine .inl ⟨show(tx l).length<=l.length by omega,fin _ _ sm ?_⟩
  rw[hy,mV]
abbrev YQ(h:Heap)(t:Addr):Heap:=h.push { cls:=.type "list_iterator",data:=.fields #[.ref t,.int 0 0] }
abbrev zB2(h:Heap)(t1 t2:Addr):Heap:=YQ (YQ h t1) t2
abbrev zB3(h:Heap)(t1 t2:Addr):Heap:=(zB2 h t1 t2).push { cls:=.type "tuple",data:=.seq #[.ref h.objs.size,.ref (YQ h t1).objs.size] }
abbrev zB4(h:Heap)(t1 t2:Addr):Heap:=(zB3 h t1 t2).push { cls:=.type "tuple",data:=.seq #[.none,.none] }
abbrev Wg(h:Heap)(t1 t2:Addr):Heap:=(zB4 h t1 t2).push { cls:=.type "zip",data:=.fields #[.none,.bool false,.bool false,.ref (zB2 h t1 t2).objs.size,.ref (zB3 h t1 t2).objs.size] }
theorem Ub(t1 t2:Addr)(xs ys:Array AA):Meets (Builtin.«zip.__new__» ⟨[.type "zip",.ref t1,.ref t2],[]⟩) (fun _ R s=>s.heap.IsList t1 xs/\s.heap.IsList t2 ys/\R (.ok (.ret (.ref (zB4 s.heap t1 t2).objs.size))) { s with heap:=Wg s.heap t1 t2 }):=
 .of_wp fun prog w A R s z=>by
  obtain⟨hp,g,d,tk,os⟩:=s;obtain⟨hx,hy,z⟩:=z;have sub:=sub_zip;have hX:Heap.IsList (Shared.heap ⟨hp,g,d,tk,os⟩) t1 xs:=hx;have hY:Heap.IsList (Shared.heap ⟨YQ hp t1,g,d,tk,os⟩) t2 ys:=hy.push _
  wp_walk using DY hX,DY hY
  exact⟨_,rfl,z⟩
theorem Ab{prog:AC}{w:World}{A:Around}{E:AA->AB->Prop}{s:AB}{t1 t2:Addr}{xs ys:Array AA}{Q:AA->AB->Prop}(hx:s.heap.IsList t1 xs)(hy:s.heap.IsList t2 ys)
  (q:∀h',IsZip h' (s.heap.objs.size+4) (s.heap.objs.size+2) (s.heap.objs.size+3) .none->IsPair h' (s.heap.objs.size+2) (.ref s.heap.objs.size) (.ref (s.heap.objs.size+1))->IsPair h' (s.heap.objs.size+3) .none .none ->
   h'.IsListIter s.heap.objs.size t1 0->h'.IsListIter (s.heap.objs.size+1) t2 0->(∀c o,s.heap.get? c=some o->h'.get? c=some o)->Q (.ref (s.heap.objs.size+4)) { s with heap:=h' }) :
  wpAny (model prog w) A (call (.type "zip") [.ref t1,.ref t2]) Q E s:=by
 have n1:(YQ s.heap t1).objs.size=s.heap.objs.size+1:=gf ..;have n2:(zB2 s.heap t1 t2).objs.size=s.heap.objs.size+2:=by rw[gf,n1]
 have n3:(zB3 s.heap t1 t2).objs.size=s.heap.objs.size+3:=by rw[gf,n2]
 have n4:(zB4 s.heap t1 t2).objs.size=s.heap.objs.size+4:=by rw[gf,n3]
 have up:∀c o,s.heap.get? c=some o->(Wg s.heap t1 t2).get? c=some o:=fun c o e=>cU _ (cU _ (cU _ (cU _ (cU _ e))));have v5:(Wg s.heap t1 t2).get? (zB4 s.heap t1 t2).objs.size=some _:=cI _ rfl;have v4:(Wg s.heap t1 t2).get? (zB3 s.heap t1 t2).objs.size=some _:=cU _ (cI _ rfl);have v3:(Wg s.heap t1 t2).get? (zB2 s.heap t1 t2).objs.size=some _:=cU _ (cU _ (cI _ rfl));have v2:(Wg s.heap t1 t2).get? (YQ s.heap t1).objs.size=some _:=cU _ (cU _ (cU _ (cI _ rfl)));have v1:(Wg s.heap t1 t2).get? s.heap.objs.size=some _:=cU _ (cU _ (cU _ (cU _ (cI _ rfl))));refine callType_new F.called_zip ⋯ (F.typeCall_zip_2 _ _) (F.newCall_zip_2 _ _) (fun x=>F.args_object_init_3 x _ _) F.entry_zip_new (Ub t1 t2 xs ys) ⟨hx,hy,?_⟩
 show _/\_;rw[n2,n3,n4] at v5;rw[n1,n2] at v3;rw[n3] at v4;rw[n1] at v2;rw[n4];exact⟨⟨_,v5,rfl⟩,q _ v5 v3 v4 ⟨_,v1,rfl,rfl⟩ ⟨_,v2,rfl,rfl⟩ up⟩
theorem Wr{X:Cx}{ae:List (Addr×Obj)}{σ:St}{H:Hp}{s:AB}{a b:Addr}{xs:List V}(I:Inv X ae σ H s)(hq:cz X.K H a xs)(hf:eE X ae H b):a≠b:=fun z=>by
 rcases hq with h | ⟨o,its,n,hk,_⟩
 ·rcases h with h | ⟨o,h⟩ <;> (rw[z,hf.1] at h; cases h)
 ·have e:X.base.get? a=some o:=I.ok.mod.Qq a o hk;rcases hf.2.2.2.1 with y | y
  ·exact I.ok.Fi a o e (z▸y)
  ·have l:=bI e;have m:=I.ok.M4;rw[z] at l;exact absurd (nC l (jJ m y)) (pU _)
def kL:Knd:=⟨fun K=>cz K,fun h i a n=>h.IsListIter i a n,fun h a us=>h.IsList a us,fun⟨o,g,_,d⟩=>⟨o,g,fun v q=>by rw[d] at q; cases q⟩,fun g k=>g.at k,fun I h=>(I.list h).elim fun us p=>⟨us,p.1,p.2.1.isList⟩,fun I h h'=>I.wX h h',fun I h f=>Wr I h f,fun hh i a n us=>Draws.list hh i a n us⟩
abbrev Rp:=Ys kL kL
section
variable{X:Cx}
def J5(K:Frag)(ta:TA):TI:=fun σ H R=>ta σ H fun vs H1=>∃a b,vs=[.ref a,.ref b]/\(∃xs,cz K H1 a xs)/\(∃ys,cz K H1 b ys)/\R (Rp K a b) H1
theorem JD{K:Frag}{e e':Expr}{elts:List Expr}{x1}{tp p pos:Pos}{ta:TA}(hK:X.K=K)(hm:X.mg "zip" = none)(ha:PA X [e,e'] ta)(hg: ~~~(Gl X "zip"))(h1: ~~~(bJ e=true))(h2: ~~~(bJ e'=true)) :
  PI X (.Tuple elts x1 tp) (.Call (.Name "zip" p) [e,e'] [] pos) (J5 K ta):=by
 subst hK;symm;intro R I h;refine qQ (gZ I hg hm Ia ?_ ⋯ ⋯)
 refine PyProof.Rows.callWith_type1 (cA (ha pos ae s σ H _ I h) fun us s1 ⟨vs,H1,I1,r1,q1⟩=>?_) (bU h1) (b7 (es:=[e']) (by simp[h2]))
 obtain⟨a,b,rfl,⟨xs,hx⟩,⟨ys,hy⟩,q⟩:=q1;obtain⟨u,v,rfl,ru,rv⟩:=r1.two;cases ru;cases rv;obtain⟨us,_,pu,_⟩:=I1.list hx;obtain⟨ws,_,pw,_⟩:=I1.list hy;refine Ab pu.isList pw.isList fun h' hz hp ho h1 h2 kk=>?_;have I2:Inv X ae σ H1 { s1 with heap:=h' }:=I1.kept (t':=s1.toks) kk
 have fr:∀n,H1 (s1.heap.objs.size+n)=none:=fun n=>I1.hok.fresh (zH _ _);have fk:∀n,eE X ae H1 (s1.heap.objs.size+n):=fun n=>I1.nR (zH _ _) (fr n);have ne:∀i j:Nat,i≠j->s1.heap.objs.size+i≠s1.heap.objs.size+j:=fun i j n e=>n (Nat.add_left_cancel e);refine Jm hz ⟨s1.heap.objs.size+4,_,_,Rp X.K a b,H1,rfl,I2,yR kL kL a b (s1.heap.objs.size+4) (s1.heap.objs.size+2) (s1.heap.objs.size+3) s1.heap.objs.size (s1.heap.objs.size+1) (ne _ _ ⋯) (ne _ _ ⋯) (ne _ _ ⋯) (ne 0 _ ⋯) (ne _ _ ⋯) (ne _ 0 ⋯) (ne _ _ ⋯) (ne 0 _ ⋯) (ne _ 0 ⋯) (ne _ _ ⋯),⟨hz,hp,⟨_,_,ho⟩,h1,h2⟩,fun c hc=>?_,q⟩
 simp only[bK,fD,or_false] at hc;rcases hc with rfl | rfl | rfl | rfl | rfl
 ·exact fk 4
 ·exact fk 2
 ·exact fk 3
 ·exact fk 0
 ·exact fk 1
end
theorem Mx{K:Frag}{js:List Nat}{a b:Addr}{xs ys:List V}{es:List PyData}{ta:TA}{te:TE}{σ:St}{H:Hp}{Q:VK}(hl:∀R:List V->Hp->Prop,R [.ref a,.ref b] H->ta σ H R)(ha:H a=some (.lst xs))(hb:H b=some (.lst ys))(n1:xs.length=es.length)(n2:ys.length=es.length)(hz:es.length<=sizeLine)(hL:bG es=true)
  (val:∀(i:Nat) x y e H',xs[i]?=some x->ys[i]?=some y->es[i]?=some e->aJ H H'->∀R:VK,(∀v cQ,aJ H' cQ->At cQ e v->R v cQ)->te (some x::some y::bW js σ) H' R)
  (fin:∀acc zs H',aJ H H'->H acc=none->H' acc=some (.lst zs)->aj (hid acc H') es zs->Q (.ref acc) H'):eN 2 js (J5 K ta) (Mp K 2 (jQ (fj 0) (jQ (fj 1) Cp))) qG te σ H Q:=by
 refine hl _ ⟨a,b,rfl,⟨xs,cz.of ha⟩,⟨ys,cz.of hb⟩,fun acc hacc=>?_⟩;have gx:∀i,i<es.length->xs[i]?=some (xs.getD i .non):=fun i hi=>by rw[iI,cN ∅]; rfl
 have gy:∀i,i<es.length->ys[i]?=some (ys.getD i .non):=fun i hi=>by rw[iI,cN ∅]; rfl
 refine xJ (es:=es) (fun i=>xs.getD i .non) (fun i=>ys.getD i .non) hz hL hacc (fun i H' hi s=>⟨xs,ys,_,_,cz.of (s _ _ ha),cz.of (s _ _ hb),gx i hi,gy i hi⟩) (fun i H' v cQ hi s y=>?_) (fun H' s=>⟨xs,ys,cz.of (s _ _ ha),cz.of (s _ _ hb),.inl n1.symm⟩) (fun i e H' he s R hR=>?_) fun zs H' s h1 h2=>fin acc zs H' s hacc h1 h2
 ·obtain⟨p,x,y,fp,e1,e2,h1,h2⟩:=y;have q1:=h1 xs (cz.of (s _ _ ha));have q2:=h2 ys (cz.of (s _ _ hb));rw[gx i hi] at q1;rw[gy i hi] at q2;cases q1;cases q2;exact⟨p,fp,e1,e2⟩
 ·have hi:i<es.length:=by
   by_cases z:i<es.length
   ·exact z
   ·rw[Lf ∅] at he; cases he
  exact val i _ _ e H' (gx i hi) (gy i hi) he s R hR
end _L
namespace _L
open PySem
structure Pl(n:Nat)(d:PyData):Prop where
 hd:d.hasDict=false
 cl:d.canLay0=true
 dp:d.depth<=n
end _L
namespace _L
open PySem PySem.Spec PyProof.Rows
def Nf(h:Heap)(e:Addr)(cls:AA)(T:Addr):Prop:=∃oe vs,h.get? e=some oe/\(oe.cls=cls/\oe.dict=none)/\oe.data=.fields vs/\vs[1]?=some (.ref T)/\vs[2]?=some .none
def M6(h:Heap)(T:Addr):Prop:=∃oT ts,h.get? T=some oT/\oT.data=.fields ts/\ts[3]?=some .none
structure V9(fs:List Addr)(h h':Heap)(e T:Addr)(cls:AA):Prop where
 keep:∀b o,b≠e->b∉fs->h.get? b=some o->h'.get? b=some o
 slot:∀b o,b≠e->h.get? b=some o->∃sl,h'.get? b=some { o with slots:=sl }
 fresh:h.objs.size<=T
 ex:Nf h' e cls T
 tb:M6 h' T
section
variable{M:Model}{A:Around}{E:AA->AB->Prop}{s:AB}
theorem xx(o:Obj)(f:Array AA->Array AA):(Obj.mapFields f o).dict=o.dict:=by
 obtain⟨c,d,dt,sl⟩:=o;cases dt <;> rfl
theorem entryE{base:Heap}{env:Env}{outer:List Env}{L e:Addr}{oe:Obj}{vs:Array AA}{head:AA}{nx:Bool}{Q:Unit->AB->Prop}
  (fr:A.frames=some (env::outer)) (ff:s.heap.FunFrames base (env::outer)) (fL:env.frame=some L) (he:s.heap.get? e=some oe) (hdn:oe.dict=none) (hd:oe.data=.fields vs) (hz:1<vs.size) (hc:vs[2]?=some .none)
  (q:∀h' T,V9 (frs (env::outer)) s.heap h' e T oe.cls->Q () { s with heap:=h' }) :
  wpAny M A (do
   let a <- frameOf env
   let pl <- entryPlaceOf L nx
   let b <- EntryCells.newEntry head a .none (rawInt L) .none pl
   setField (.ref e) 1 b) (fun _ s'=>wpAny M A (setFlight (.ref e) none) Q E s') E s:=by
 have ne:e∉frs (env::outer):=fun hm=>by
  obtain⟨_,o,ho,hf⟩:=ff.mem hm;rw[he] at ho;cases ho;exact hf vs hd
 refine aL (wpAny_frameOf_fun fr ff fL fun h1 so=>aL (wpAny_entryPlaceOf fun pl hpl=>?_));obtain⟨sz,sk,ss⟩:=so;unfold EntryCells.newEntry newFields;refine aL (qP ?_ (hpl.sizeOk5 _ _ _ _ _));have e1:h1.get? e=some oe:=(sk e ne).trans he;have pe:=cU (h:=h1) { cls:=.type "traceback",data:=.fields (([head,.ref L,.none,rawInt L,.none]:List AA)++(if pl.isEmpty then List.replicate 6 .none else pl)).toArray } e1
 have nT:h1.objs.size≠e:=xY (bI e1);have pT:=cI h1 (o:={ cls:=.type "traceback",data:=.fields (([head,.ref L,.none,rawInt L,.none]:List AA)++(if pl.isEmpty then List.replicate 6 .none else pl)).toArray }) rfl
 have pk:∀b o,h1.get? b=some o->(h1.push { cls:=.type "traceback",data:=.fields (([head,.ref L,.none,rawInt L,.none]:List AA)++(if pl.isEmpty then List.replicate 6 .none else pl)).toArray }).get? b=some o:=fun b o z=>cU _ z
 refine DQ pe hd hz ?_;generalize h1.push { cls:=.type "traceback",data:=.fields (([head,.ref L,.none,rawInt L,.none]:List AA)++(if pl.isEmpty then List.replicate 6 .none else pl)).toArray }=h2 at pe pT pk ⊢
 have dx:=Obj.data_mapFields hd (·.setIfInBounds 1 (Value.ref h1.objs.size));have pe3:=ux (Obj.mapFields (·.setIfInBounds 1 (Value.ref h1.objs.size))) pe (Obj.isFreed_of_fields dx);have pT3:=(kZ h2 (Obj.mapFields (·.setIfInBounds 1 (Value.ref h1.objs.size))) (Ne.symm nT)).trans pT;have pk3:∀b o,b≠e->h1.get? b=some o->(h2.update e (Obj.mapFields (·.setIfInBounds 1 (Value.ref h1.objs.size)))).get? b=some o:=fun b o z y=>(kZ h2 _ (Ne.symm z)).trans (pk b o y);have ce:=Obj.cls_mapFields oe (·.setIfInBounds 1 (Value.ref h1.objs.size));generalize h2.update e (Obj.mapFields (·.setIfInBounds 1 (Value.ref h1.objs.size)))=h3 at pe3 pT3 pk3 ⊢;unfold setFlight;have v1:(vs.setIfInBounds 1 (Value.ref h1.objs.size))[1]?=some (.ref h1.objs.size):=by simp[hz]
 refine aL (gF pe3 dx v1 ?_);rw[aV (show(Value.ref h1.objs.size != Value.none)=true by simp)]
 refine DQ pT3 rfl (by simp only[d_,cF,fC,pW] <;> omega) ?_
 have d4:=Obj.data_mapFields (o:={ cls:=.type "traceback",data:=.fields (([head,.ref L,.none,rawInt L,.none]:List AA)++(if pl.isEmpty then List.replicate 6 .none else pl)).toArray }) rfl (·.setIfInBounds 3 ((none:Option Addr).elim Value.none fun f=>rawInt f))
 have pT4:=ux (Obj.mapFields (·.setIfInBounds 3 ((none:Option Addr).elim Value.none fun f=>rawInt f))) pT3 (Obj.isFreed_of_fields d4);have o4:∀b,b≠h1.objs.size->(h3.update h1.objs.size (Obj.mapFields (·.setIfInBounds 3 ((none:Option Addr).elim Value.none fun f=>rawInt f)))).get? b=h3.get? b:=fun b z=>kZ h3 _ (Ne.symm z);refine q _ h1.objs.size ⟨fun b o z y x=>?_,fun b o z x=>?_,Nat.le_of_eq sz.symm,⟨_,_,(o4 e (Ne.symm nT)).trans pe3,⟨ce,(xx oe _).trans hdn⟩,dx,v1,by rw[Array.getElem?_setIfInBounds]; simpa using hc⟩,⟨_,_,pT4,d4,?_⟩⟩
 ·have x1:h1.get? b=some o:=(sk b y).trans x;exact(o4 b (cZ (bI x1))).trans (pk3 b o z x1)
 ·obtain⟨sl,x1⟩:=ss b o x;exact⟨sl,(o4 b (cZ (bI x1))).trans (pk3 b _ z x1)⟩
 ·first | (simp; done) | (rcases hpl with rfl | ⟨_,_,_,_,_,_,_,rfl⟩ <;> simp)
theorem Ue{base:Heap}{env:Env}{outer:List Env}{L e:Addr}{oe:Obj}{vs:Array AA}{Q:Unit->AB->Prop}
  (fr:A.frames=some (env::outer)) (ff:s.heap.FunFrames base (env::outer)) (fL:env.frame=some L) (he:s.heap.get? e=some oe) (hdn:oe.dict=none) (hd:oe.data=.fields vs) (h1:vs[1]?=some .none) (h2:vs[2]?=some .none)
  (q:∀h' T,V9 (frs (env::outer)) s.heap h' e T oe.cls->Q () { s with heap:=h' }):wpAny M A (leaving env (.ref e)) Q E s:=by
 unfold leaving noteFrame;simp only[fL];refine aL (aL (gF he hd h1 ?_));rw[aN ⋯]
 exact entryE fr ff fL he hdn hd (Jz.mp h1).1 h2 q
structure Yq(fs:List Addr)(h h':Heap)(e T0 T:Addr)(cls:AA):Prop where
 keep:∀b o,b≠e->b≠T0->b∉fs->h.get? b=some o->h'.get? b=some o
 slot:∀b o,b≠e->b≠T0->h.get? b=some o->∃sl,h'.get? b=some { o with slots:=sl }
 old:∃o,h'.get? T0=some o
 fresh:h.objs.size<=T
 ex:Nf h' e cls T
 tb:M6 h' T
theorem noteE2{base:Heap}{env:Env}{outer:List Env}{L e T0:Addr}{cls:AA}{Q:Unit->AB->Prop}
  (fr:A.frames=some (env::outer)) (ff:s.heap.FunFrames base (env::outer)) (fL:env.frame=some L) (he:Nf s.heap e cls T0) (hT:M6 s.heap T0) (nT:T0≠e)
  (q:∀h' T,Yq (frs (env::outer)) s.heap h' e T0 T cls->Q () { s with heap:=h' }) :
  wpAny M A (noteFrame (.ref e) env) (fun _ s2=>wpAny M A (setFlight (.ref e) none) Q E s2) E s:=by
 obtain⟨oe,vs,e1,⟨ec,edn⟩,ed,ev,ev2⟩:=he;obtain⟨oT,ts,t1,td,tv⟩:=hT;subst ec;unfold noteFrame;simp only[fL];refine aL (gF e1 ed ev ?_);rw[aV (show(Value.ref T0 != Value.none)=true by simp)]
 refine aL (gF t1 td tv ?_);rw[aN (show ¬((Value.none==rawInt L)=true) by simp[rawInt])]
 have tz:=(Jz.mp tv).1;refine aL (DQ t1 td tz ?_);have dT:=Obj.data_mapFields td (·.setIfInBounds 3 Value.none);have g1:=ux (Obj.mapFields (·.setIfInBounds 3 Value.none)) t1 (Obj.isFreed_of_fields dT);have g2:∀b,b≠T0->(s.heap.update T0 (Obj.mapFields (·.setIfInBounds 3 Value.none))).get? b=s.heap.get? b:=fun b z=>kZ _ _ (Ne.symm z);have gz:(s.heap.update T0 (Obj.mapFields (·.setIfInBounds 3 Value.none))).objs.size=s.heap.objs.size:=Heap.size_after_update ..
 have f2:(s.heap.update T0 (Obj.mapFields (·.setIfInBounds 3 Value.none))).FunFrames base (env::outer):=ff.of_keeps fun b o ho hf=>⟨o,(g2 b fun z=>by
  rw[z,t1] at ho;cases ho
  exact hf ts td).trans ho,rfl⟩
 generalize s.heap.update T0 (Obj.mapFields (·.setIfInBounds 3 Value.none))=h2 at g1 g2 gz f2 ⊢;refine entryE (s:={ s with heap:=h2 }) fr f2 fL ((g2 e (Ne.symm nT)).trans e1) edn ed (Jz.mp ev).1 ev2 fun h' T l=>?_
 have nf:T0∉frs (env::outer):=fun hm=>by
  obtain⟨_,o,ho,hf⟩:=ff.mem hm;rw[t1] at ho;cases ho;exact hf ts td
 exact q h' T ⟨fun b o z y x u=>l.keep b o z x ((g2 b y).trans u),fun b o z y u=>l.slot b o z ((g2 b y).trans u),⟨_,l.keep _ _ nT nf g1⟩,by rw[<- gz]; exact l.fresh,l.ex,l.tb⟩
end
section
variable{P:AC}{w:World}{H H':Hp}{h h':Heap}{a:Addr}{o:HO}
theorem bM.there(x:bM P w H h a o):∃u,h.get? a=some u:=by
 cases o with
 | lst xs=>obtain⟨_,_,_,_,e⟩:=x; exact⟨_,e⟩
 | tup xs=>obtain⟨_,_,_,ob,e,_⟩:=x; exact⟨_,e⟩
 | dK kvs=>obtain⟨_,_,_,_,o,_,_,e,_⟩:=x; exact⟨_,e⟩
 | dT kvs=>obtain⟨_,_,_,_,o,_,_,e,_⟩:=x; exact⟨_,e⟩
 | set S n=>obtain⟨o,_,_,_,e,_⟩:=x; exact⟨_,e⟩
 | ins C dx fs=>obtain⟨_,_,_,e,_⟩:=x; exact⟨_,e⟩
 | own y=>exact x
 | xd fs=>obtain⟨_,⟨_,_,_,e,_⟩,_⟩:=x; exact⟨_,e⟩
 | YG lo hi=>obtain⟨_,_,_,e⟩:=x; exact⟨_,e⟩
 | kE ob u=>obtain⟨e,_⟩:=x; exact⟨_,e⟩
 | Vg ps=>exact⟨_,(show h.get? a=some _ from x)⟩
 | met f y=>exact⟨_,(show h.get? a=some _ from x)⟩
 | ext φ=>obtain⟨_,e,_⟩:=x; exact e
theorem jT.none(x:jT P w H h)(e:h.get? a=none):H a=none:=by
 cases q:H a with
 | none=>rfl
 | some u=>
  obtain⟨v,z⟩:=(x a u q).there;rw[e] at z; cases z
def xT(e:Addr)(cls:AA)(T:Addr):HO:=.ext fun h=>Nf h e cls T
def yM(T:Addr):HO:=.ext fun h=>M6 h T
def RL(T:Addr):HO:=.ext fun h=>∃o,h.get? T=some o
theorem Qf{e T:Addr}{cls:AA}(x:Nf h e cls T):bM P w H h e (xT e cls T):=by
 refine⟨x,?_,?_⟩
 ·obtain⟨oe,vs,e1,_⟩:=x; exact⟨_,e1⟩
 ·rintro h1 h2 ⟨oe,vs,e1,r⟩ k;exact⟨oe,vs,k _ e1,r⟩
theorem JM{T:Addr}(x:M6 h T):bM P w H h T (yM T):=by
 refine⟨x,?_,?_⟩
 ·obtain⟨oe,vs,e1,_⟩:=x; exact⟨_,e1⟩
 ·rintro h1 h2 ⟨oe,vs,e1,r⟩ k;exact⟨oe,vs,k _ e1,r⟩
theorem VL{T:Addr}(x:∃o,h.get? T=some o):bM P w H h T (RL T):=by
 refine⟨x,x,?_⟩;rintro h1 h2 ⟨oe,e1⟩ k;exact⟨oe,k _ e1⟩
theorem xT.at{e T:Addr}{cls:AA}(x:bM P w H h e (xT e cls T)):Nf h e cls T:=x.1
theorem yM.at{T:Addr}(x:bM P w H h T (yM T)):M6 h T:=x.1
theorem jT.ext(x:jT P w H h)(S:Addr->Prop)(k:∀b u v,H b=some u->¬S b->h.get? b=some v->h'.get? b=some v)(hs:∀b,S b->H b=Option.none\/∃φ,H b=some (.ext φ))
  (o1:∀b,¬S b->H' b=H b) (o2:∀b u,S b->H' b=some u->bM P w H' h' b u):jT P w H' h':=fun b u e=>by
 by_cases z:S b
 ·exact o2 b u z e
 ·rw[o1 b z] at e;refine(x b u e).stay (fun c v q y=>?_) (fun c q=>?_) (fun c xs q=>?_)
  ·rcases q with q | q
   ·subst q; exact k c u v e z y
   ·exact k c _ v q (fun y'=>(hs c y').elim (fun n=>by rw[n] at q; cases q) fun⟨φ,n⟩=>by rw[n] at q; cases q) y
  ·rw[o1 c fun y'=>(hs c y').elim (fun n=>by rw[n] at q; cases q) fun⟨φ,n⟩=>by rw[n] at q; cases q]; exact q
  ·rw[o1 c fun y'=>(hs c y').elim (fun n=>by rw[n] at q; cases q) fun⟨φ,n⟩=>by rw[n] at q; cases q]; exact q
end
def mz(P:AC)(w:World):Kq:=fun outer H s E e s'=>∃(a T:Addr)(cls:AA)(H':Hp),e=.ref a/\s'.os=s.os/\AllBare s'.gens/\Un (frs outer) [] H H' s.heap s'.heap/\jT P w H' s'.heap /\
 H' a=some (xT a cls T)/\H' T=some (yM T)/\T≠a/\(s.heap.get? a=none/\s.heap.get? T=none)/\E cls none H'
section
variable{P:AC}{w:World}{K:Frag}{mg:Str->Option AA}{base:Heap}{N:List Str}{qual:Str}{scope:Scope}{f:Addr}{cd:AA}{A:Around}{outer:List Env}{s0:AB}{H0:Hp}{E:XK}
theorem GX{ae:List (Addr×Obj)}{σ:St}{H:Hp}{s:AB}{h2:Heap}{e C:Addr}{us:List AA}(I:Inv (gq (mz P w) P w K mg base N qual scope f cd A outer s0 H0 E) ae σ H s)
  (m:Heap.MadeExcOf s.heap h2 e (.ref C) us) (Nh:jT P w H0 s0.heap) (q:∀H',aJ H H'->E (.ref C) none H'):(gq (mz P w) P w K mg base N qual scope f cd A outer s0 H0 E).xe (.ref e) { s with heap:=h2 }:=by
 obtain⟨t,he,_,_⟩:=m.there;have ff:h2.FunFrames base (envOfC qual scope s0.heap.objs.size f cd::outer):=(I.stack:s.heap.FunFrames base (envOfC qual scope s0.heap.objs.size f cd::outer)).of_keeps fun b o ho _=>⟨o,m.keeps b o ho,rfl⟩;have fr:(A.deeper (envOfC qual scope s0.heap.objs.size f cd)).frames=some (envOfC qual scope s0.heap.objs.size f cd::outer):=I.ok.frames;refine Ue (s:={ s with heap:=h2 }) fr ff rfl he rfl rfl rfl rfl fun h3 T l=>?_
 have ne:H e=none:=I.hok.none m.new
 have nT:H T=none:=I.hok.none (by
  cases z:s.heap.get? T with
  | none=>rfl
  | some o=>exact absurd (bI (m.keeps _ _ z)) (Nat.not_lt.mpr l.fresh))
 have Te:T≠e:=fun z=>by
  obtain⟨oe,vs,e1,e2,e3,e4⟩:=l.ex;obtain⟨oT,ts,t1,t2,t3⟩:=l.tb;have:=bI he;have:=l.fresh;have:e<h2.objs.size:=bI he;subst z;exact absurd this (Nat.not_lt.mpr l.fresh)
 have iL:∀b o,s0.heap.get? b=some o->b≠s0.heap.objs.size:=fun b o z=>cZ (bI z);have ib:Un (frs outer) [] H0 H s0.heap s.heap:=I.base;have u1:∀b,b≠T->b≠e->upd (upd H e (xT e (.ref C) T)) T (yM T) b=H b:=fun b y z=>by rw[aC y,aC z]
 have nb:∀b o,s.heap.get? b=some o->b≠e:=fun b o z y=>by rw[y,m.new] at z; cases z
 have nbT:∀b o,s.heap.get? b=some o->b≠T:=fun b o z y=>by
  have a1:=bI (m.keeps b o z);have a2:h2.objs.size<=T:=l.fresh;subst y;exact Nat.not_lt.mpr a2 a1
 have nf:∀b,b∉frs outer->b≠s0.heap.objs.size->b∉frs (envOfC qual scope s0.heap.objs.size f cd::outer):=fun b y z hm=>by
  rcases bK.mp (show b∈s0.heap.objs.size::frs outer from hm) with x | x
  ·exact z x
  ·exact y x
 have hu:∀b u,H b=some u->b≠e/\b≠T:=fun b u z=>⟨fun y=>(by rw[y,ne] at z; cases z),fun y=>(by rw[y,nT] at z; cases z)⟩
 refine⟨e,T,.ref C,upd (upd H e (xT e (.ref C) T)) T (yM T),rfl,I.os,I.bare,⟨fun b o z n y _=>?_,fun b o z n y x=>?_,fun b o z n x=>?_,fun b o z x=>?_,fun b xs z=>?_,fun b o u z=>?_,fun b ps z=>?_⟩,?_,?_,aB,Te,⟨?_,?_⟩,?_⟩
 ·have g:=ib.keep b o z n y (by simp)
  exact l.keep b o (nb b o g) (nf b y (iL b o z)) (m.keeps b o g)
 ·obtain⟨sl,g⟩:=ib.slot b o z n y x;obtain⟨sl2,g2⟩:=l.slot b _ (nb b _ g) (m.keeps b _ g);exact⟨sl2,g2⟩
 ·obtain⟨o',g⟩:=ib.there b o z x;rw[u1 b (nbT b _ g) (nb b _ g)];exact ib.free b o z n x
 ·obtain⟨o',g⟩:=ib.there b o z x;obtain⟨sl2,g2⟩:=l.slot b _ (nb b _ g) (m.keeps b _ g);exact⟨_,g2⟩
 ·have g:=ib.tups b xs z;rw[u1 b (hu b _ g).2 (hu b _ g).1]; exact g
 ·have g:=ib.uM b o u z;rw[u1 b (hu b _ g).2 (hu b _ g).1]; exact g
 ·obtain⟨more,g⟩:=ib.xV b ps z;exact⟨more,by rw[u1 b (hu b _ g).2 (hu b _ g).1]; exact g⟩
 ·refine(show jT P w H s.heap from I.hok).ext (fun b=>b=e\/b=T) (fun b u v z y x=>?_) (fun b z=>?_) (fun b z=>?_) (fun b u z y=>?_)
  ·have g:=(I.hok b u z).there;refine l.keep b v (fun q=>y (.inl q)) (fun hm=>?_) (m.keeps b v x);have:=I.uP b hm;rw[z] at this; cases this
  ·rcases z with rfl | rfl
   ·exact .inl ne
   ·exact .inl nT
  ·exact u1 b (fun q=>z (.inr q)) fun q=>z (.inl q)
  ·rcases z with rfl | rfl
   ·rw[aC (Ne.symm Te),aB] at y;cases y;exact Qf l.ex
   ·rw[aB] at y;cases y;exact JM l.tb
 ·rw[aC (Ne.symm Te),aB]
 ·cases z:s0.heap.get? e with
  | none=>rfl
  | some o=>
   obtain⟨o',g⟩:=ib.there e o z (by simp)
   rw[m.new] at g; cases g
 ·cases z:s0.heap.get? T with
  | none=>rfl
  | some o=>
   obtain⟨o',g⟩:=ib.there T o z (by simp)
   exact absurd rfl (nbT T o' g)
 ·exact q _ ((aM ne _).trans (aM (by rw[aC Te]; exact nT) _))
end
def Wj:List AA:=[.type "ValueError",.type "Exception",.type "BaseException",.type "object"]
structure ExC(K:Frag)(mg:Str->Option AA)(x:Str)(C:Addr):Prop where
 bound:mg x=some (.ref C)
 ok:excIn K C Wj "ValueError.__new__" = true
theorem ExC.obj{K:Frag}{C:Addr}{h:Heap}(X:K.In h)(q:excIn K C Wj "ValueError.__new__" = true) :
  ∃bm N nm qn bs hdct sn sub ab col dd k0 k1 k2 k3 k5 mN,h.get? C=some (excClassObj nm qn C N bs bm hdct sn sub ab col dd k0 k1 k2 k3 k5 "ValueError.__new__")/\h.Ns N mN/\mN "__init__" = none/\OwnTail h Wj bm:=by
 unfold excIn at q;split at q
 ·rename_i dd cd sl ho;split at q
  ·rename_i C' bm k0 k1 k2 k3 n k5 hm hs;simp only[DX,beq_iff_eq,Bool.not_eq_true'] at q;obtain⟨⟨⟨⟨⟨rfl,rfl⟩,a1⟩,a2⟩,a3⟩,a4⟩:=q;cases cd with
   | mk nm bs mro ns qn hd sn sub ab col del=>
    dsimp only at hm a1 a3 a4;subst hm a1;obtain⟨l⟩:=sl;have e:l=[k0,k1,k2,k3,some (.builtin "ValueError.__new__"),k5]:=hs;subst e;exact⟨bm,ns,nm,qn,bs,hd,sn,sub,ab,col,dd,k0,k1,k2,k3,k5,_,X _ _ ho,.of_isNs (PySem.W.isNs_of_in X a3),PySem.W.nsMap_none_of_in X a3 a4,PySem.W.tail_of_in X a2⟩
  ·cases q
 ·cases q
def Oh(E:XK)(C:Addr)(ta:TA):TS:=fun _ σ H=>ta σ H fun vs H1=>vs.length<=sizeLine/\∀H',aJ H1 H'->E (.ref C) none H'
section
variable{P:AC}{w:World}{K:Frag}{mg:Str->Option AA}{base:Heap}{N:List Str}{qual:Str}{scope:Scope}{f:Addr}{cd:AA}{A:Around}{outer:List Env}{s0:AB}{H0:Hp}{E:XK}
theorem Eu{x:Str}{C:Addr}{e0:Expr}{np cpos pos:Pos}{ta:TA}(c:ExC K mg x C)(Nh:jT P w H0 s0.heap)(ha:PA (gq (mz P w) P w K mg base N qual scope f cd A outer s0 H0 E) [e0] ta)(hg: ~~~(Gl (gq (mz P w) P w K mg base N qual scope f cd A outer s0 H0 E) x))
  (hd:((x==("__debug__" : Str))=false)⁻¹)
  (he: ~~~(starEach [e0] (gq (mz P w) P w K mg base N qual scope f cd A outer s0 H0 E).env=[(false,eval e0 (gq (mz P w) P w K mg base N qual scope f cd A outer s0 H0 E).env)])) :
  PS (gq (mz P w) P w K mg base N qual scope f cd A outer s0 H0 E) (.Raise (some (.Call (.Name x np) [e0] [] cpos)) none pos) (Oh E C ta):=by
 symm;intro D I h;obtain⟨bm,N1,nm,qn,bs,hdct,sn,sub,ab,col,dd,k0,k1,k2,k3,k5,mN,hC,hN,hni,T⟩:=ExC.obj (show K.In base from I.mod.Qq) c.ok;have bk:∀{s:AB}{H:Hp}{σ:St},Inv (gq (mz P w) P w K mg base N qual scope f cd A outer s0 H0 E) ae σ H s->∀b o,base.get? b=some o->s.heap.get? b=some o:=fun I=>I.bk;refine wpAny_Raise_call_subU (C:=C) (nm:=nm) (q:=qn) (N:=N1) (bs:=bs) (bm:=bm) (hdct:=hdct) (sn:=sn) (sub:=sub) (ab:=ab) (col:=col) (dd:=dd) (k0:=k0) (k1:=k1) (k2:=k2) (k3:=k3) (k5:=k5) (newId:="ValueError.__new__")
  PySem.F.excBase_ValueError ⋯ PySem.F.excBase_ValueError (mN:=mN) (T.hasType PySem.F.excBase_ValueError.hasBase) (I.ok.hd rfl) (by rw[he]; rfl) hni (qY I hg c.bound ⟨rfl,?_⟩ hd)
 have g:=ha cpos ae s σ H _ I h;rw[he] at g ⊢;refine Calls.evalArgs_plain (jj g (fun us s2 z=>?_) fun _ _ y=>y);obtain⟨vs,H2,I2,rv,l2,q2⟩:=z;refine⟨rfl,by rw[<- rv.length]; exact l2,bk I2 _ _ hC,hN.keeps (bk I2),T.keeps (bk I2),fun h' e m=>GX I2 m Nh q2⟩
end
section
variable{X:Cx}{ae:List (Addr×Obj)}{σ:St}{H:Hp}{s:AB}
end
section
variable{X:Cx}{ae:List (Addr×Obj)}{σ:St}{H:Hp}{s:AB}
abbrev Cx.in'(X:Cx)(e:AA):Cx:={ X with A:=X.A.mark (some e),calm:=false }
theorem Inv.inE(I:Inv X ae σ H s)(e:AA):Inv (X.in' e) ae σ H s:=
 ⟨⟨I.ok.mod,I.ok.kind,I.ok.glob,I.ok.blt,I.ok.above,I.ok.inj,I.ok.has,I.ok.cab,(fun z=>nomatch z),I.ok.frames,I.ok.Z1,I.ok.exf,I.ok.bs,I.ok.M4,I.ok.Fi,I.ok.HD,I.ok.sZ,I.ok.VV⟩,I.os,I.bare,I.base,I.loc,I.cell,I.free,I.jA,I.pin,I.hok,I.len⟩
theorem Inv.Tv{e:AA}(I:Inv (X.in' e) ae σ H s)(ok:X.Ok):Inv X ae σ H s:=⟨ok,I.os,I.bare,I.base,I.loc,I.cell,I.free,I.jA,I.pin,I.hok,I.len⟩
theorem Inv.ext{H':Hp}{h':Heap}(I:Inv X ae σ H s)(S:Addr->Prop)(keep:∀b o,¬S b->b∉frs X.stack->s.heap.get? b=some o->h'.get? b=some o)(slot:∀b o,¬S b->s.heap.get? b=some o->∃sl,h'.get? b=some { o with slots:=sl })
  (there:∀b o,S b->s.heap.get? b=some o->∃o',h'.get? b=some o') (hs:∀b,S b->(H b=none/\s.heap.get? b=none)\/∃φ,H b=some (.ext φ))
  (o1:∀b,¬S b->H' b=H b) (o2:∀b u,S b->H' b=some u->bM X.prog X.w H' h' b u):Inv X ae σ H' { s with heap:=h' }:=by
 have un:∀b o,s.heap.get? b=some o->H b=none->¬S b:=fun b o e n z=>by
  rcases hs b z with⟨_,q⟩ | ⟨φ,q⟩
  ·rw[e] at q; cases q
  ·rw[n] at q; cases q
 have tr:∀b u,H b=some u->(∀φ,u≠.ext φ)->H' b=some u:=fun b u e n=>by
  rw[o1 b fun z=>(hs b z).elim (fun q=>by rw[q.1] at e; cases e) fun⟨φ,q⟩=>by rw[q] at e; cases e; exact n φ rfl]
  exact e
 refine I.call (ch:=[]) (g':=s.gens) (t':=s.toks) (d':=s.drawn) ⟨fun b o e n hb _=>keep b o (un b o e n) hb e,fun b o e n hb _=>slot b o (un b o e n) e,fun b o e n _=>(by rw[o1 b (un b o e n)]; exact n),fun b o e _=>?_,fun b xs e=>tr b _ e (fun φ z=>by cases z),fun b o u e=>tr b _ e (fun φ z=>by cases z),fun b ps e=>⟨#[],(by rw[tr b _ e (fun φ z=>by cases z)]; simp)⟩⟩ ?_ I.bare fun b z=>nomatch z
 ·by_cases z:S b
  ·exact there b o z e
  ·obtain⟨sl,q⟩:=slot b o z e; exact⟨_,q⟩
 ·refine I.hok.ext S (fun b u v e z q=>?_) (fun b z=>(hs b z).elim (fun q=>.inl q.1) .inr) o1 o2;refine keep b v z (fun hm=>?_) q;have:=I.uP b hm;rw[e] at this; cases this
theorem Mr{M:Model}{A:Around}{E:AA->AB->Prop}{a T:Addr}{cls:AA}{Q:Unit->AB->Prop}(I:Inv X ae σ H s)(ha:H a=some (xT a cls T))(hT:H T=some (yM T))(q:∀s',Inv X ae σ H s'->Q () s') :
  wpAny M A (setFlight (.ref a) none) Q E s:=by
 obtain⟨oe,vs,e1,ec,ed,ev,_⟩:=xT.at (I.hok a _ ha);obtain⟨oT,ts,t1,td,tv⟩:=yM.at (I.hok T _ hT);unfold setFlight;refine aL (gF e1 ed ev ?_);rw[aV (show(Value.ref T != Value.none)=true by simp)]
 have tz:=(Jz.mp tv).1;refine DQ t1 td tz ?_;have dT:=Obj.data_mapFields td (·.setIfInBounds 3 ((none:Option Addr).elim Value.none fun f=>rawInt f));have g1:=ux (Obj.mapFields (·.setIfInBounds 3 ((none:Option Addr).elim Value.none fun f=>rawInt f))) t1 (Obj.isFreed_of_fields dT);have g2:∀b,b≠T->(s.heap.update T (Obj.mapFields (·.setIfInBounds 3 ((none:Option Addr).elim Value.none fun f=>rawInt f)))).get? b=s.heap.get? b:=fun b z=>kZ _ _ (Ne.symm z);refine q _ (I.ext (fun b=>b=T) (fun b o z _ e=>(g2 b z).trans e) (fun b o z e=>⟨o.slots,(g2 b z).trans e⟩) (fun b o z e=>by subst z; exact⟨_,g1⟩) (fun b z=>.inr (by subst z; exact⟨_,hT⟩)) (fun _ _=>rfl) fun b u z e=>?_)
 subst z;rw[hT] at e;cases e;exact JM ⟨_,_,g1,dT,by simp[tz]⟩
end
def abC(H:Hp)(a:Addr)(cls:AA):Prop:=∃T,H a=some (xT a cls T)
section
variable{X:Cx}{ae:List (Addr×Obj)}{σ:St}{H1:Hp}{s1 s':AB}
end
section
variable{P:AC}{w:World}{K:Frag}{mg:Str->Option AA}{base:Heap}
theorem QQ{CX:Kq}{k:Nat}{f:Addr}{name qual:Str}{params:Arguments}{body:List Stmt}{scope:Scope}{dV kV doc pm cdv ct oc:AA}{an od:Option Addr}
  {osl:Array (Option AA)} {N ps:List Str} {sp:Sp} (lk:K.lookup f=some ⟨oc,od,.func (fnOf name qual params body scope dV kV doc pm an cdv ct),osl⟩) (hcd:codeIn K cdv qual=true) (S:aX N ps scope)
  (len:∀vs H Q E,sp vs H Q E->vs.length=ps.length)
  (hbody:∀(A:Around)(outer:List Env)(s:AB)(H:Hp)(vs:List V)(Q:VK)(E:XK),jT P w H s.heap->dR k (A.deeper (envOfC qual scope s.heap.objs.size f cdv))->sp vs H Q E ->
   ∃t,Aj (gq CX P w K mg base N qual scope f cdv A outer s H E) body t/\t { nx:=fun _ H'=>Q .non H',rt:=Q } (start N vs) H) :
  bH P w K mg base CX (k+1) f (fnOf name qual params body scope dV kV doc pm an cdv ct) ps sp:=by
 refine⟨len,fun A outer s H args us vs Q E hr e0 hb r hsp=>?_⟩;have hl:=len _ _ _ _ hsp;have KX:K.In s.heap:=e0.mod.Qq.keeps fun b o e=>(e0.bs b o e).1;have lim:s.heap.NoLimit:=e0.mod.nolimit.keeps fun b o e=>(e0.bs b o e).1
 have hkind:∀y∈ps.zip us,scope.names.lookup y.1=some .local\/(scope.names.lookup y.1=some .cell/\((cellsFrom (s.heap.objs.size+1) scope.names []).lookup y.1).isSome=true):=fun⟨n,v⟩ hy=>by
  rcases S.par n (Ej hy).1 with q | q
  ·exact .inl q
  ·exact .inr ⟨q,cellsFrom_some _ _ _ (.inl q)⟩
 refine codeAny_call_function hr.depth (KX _ _ lk) rfl S.co S.gen rfl (codeRec_of KX hcd) (hb _ _ _ _ ?_);refine wpAny_newFunctionEnv_cells S.kind hkind fun env he s1 x=>?_;subst he;refine⟨lim.keeps x.toInCall.keep,codeAny_func ?_⟩;obtain⟨t,ht,hq⟩:=hbody A outer s H vs Q E e0.hok (hr.deeper _) hsp;have I:Inv (gq CX P w K mg base N qual scope f cdv A outer s H E) [] (start N vs) H s1:=zX S hr.hd e0 hl r x;refine jj (ht [] s1 (start N vs) H _ I hq) (fun fl s' hs=>?_) fun e s' hs=>hs
 have fin:∀{σ':St}{H':Hp}{v:V}{u:AA},Inv (gq CX P w K mg base N qual scope f cdv A outer s H E) [] σ' H' s'->RelV v u->Q v H'->CE outer P w H s Q u s':=
  fun {σ' H' v u} J rv q=>⟨v,H',J.os,J.bare,J.base,J.hok,rv,q⟩
 cases fl with
 | ret u=>
  obtain⟨v,σ',H',J,rv,q⟩:=hs;exact fin J rv q
 | next=>
  obtain⟨σ',H',J,q⟩:=hs;exact fin (v:=V.non) (u:=Value.none) J rfl q
 | brk=>
  obtain⟨_,_,_,q⟩:=hs;exact False.elim q
 | cont=>
  obtain⟨_,_,_,q⟩:=hs;exact False.elim q
theorem i_.okE{x qual:Str}{st:Stmt}{f:Addr}{fd:FuncData}{N ps:List Str}{k:Nat}{sp:Sp}(F:i_ K x qual st f fd)(S:aX N ps (aG st))(len: autoParam (∀vs H Q E,sp vs H Q E->vs.length=ps.length) zg._auto_1)
  (hbody:∀(cdv:AA)(A:Around)(outer:List Env)(s:AB)(H:Hp)(vs:List V)(Q:VK)(E:XK),jT P w H s.heap->dR k (A.deeper (envOfC qual (aG st) s.heap.objs.size f cdv))->sp vs H Q E ->
   ∃t,Aj (gq (mz P w) P w K mg base N qual (aG st) f cdv A outer s H E) (bT st) t/\t { nx:=fun _ H'=>Q .non H',rt:=Q } (start N vs) H):bH P w K mg base (mz P w) (k+1) f fd ps sp:=by
 obtain⟨oc,od,kV,doc,pm,an,cdv,ct,osl,rfl,lk,hcd⟩:=F.ex;exact QQ lk hcd S len fun A outer s H vs Q E Nh hr hsp=>hbody cdv A outer s H vs Q E Nh hr hsp
structure Rt(P:AC)(w:World)(K:Frag)(mg:Str->Option AA)(base:Heap)(k:Nat)(x:Str)(ps:List Str)(sp:Sp) where
 f:Addr
 fd:FuncData
 G:bH P w K mg base (mz P w) k f fd ps sp
 kp:keepIn K (.ref f)=true
 b:Binds K fd ps []
 m:mg x=some (.ref f)
def Rt.mono{j k:Nat}{x:Str}{ps:List Str}{sp:Sp}(c:Rt P w K mg base j x ps sp)(h:j<=k):Rt P w K mg base k x ps sp:={ c with G:=c.G.mono h }
def Rt.calm{k:Nat}{x:Str}{ps:List Str}{sp:Sp}(c:Rt P w K mg base k x ps sp):Ct P w K mg base k x ps (fun vs H Q _=>sp vs H Q E0):=⟨c.f,c.fd,⟨fun vs H Q E h=>c.G.len _ _ _ _ h,fun A outer s H args us vs Q E hr he hb hv h=>codeAny_mono (c.G.run A outer s H args us vs Q E0 hr he hb hv h) fun r s' z=>by
 cases r with
 | error e=>
  obtain⟨_,_,_,_,_,_,_,_,_,_,_,_,_,q⟩:=z;exact q.elim
 | ok fl=>cases fl <;> exact z⟩,c.kp,c.b,c.m⟩
end
section
variable{prog:AC}{w:World}{A:Around}{E:AA->AB->Prop}{s:AB}{K:Frag}{x D:Addr}{ox:Obj}{od:Option Obj}
structure ExK(K:Frag)(D:Addr):Prop where
 ga:findIn K (.ref D) "__getattribute__" = some (some (.builtin "BaseException.__getattribute__"))
 gt:findIn K (.ref D) "__getattr__" = some none
 fo:findObj K D none "__class__" = some (.bind (.builtin "getset_descriptor.__get__") (.builtin "object.__class__"))
 sb:subIn K (.ref D) (.type "BaseException")=some true
 ob:mroIn K D (.type "object")=some true
end
section
variable{X:Cx}
end
noncomputable instance ack:DecidableEq PyData:=fun a b=>Classical.propDecidable (a=b)
mutual
def ndK:PyData->Bool
 | .int _=>true
 | .tuple ds=>aaL ds
 | _=>false
def aaL:List PyData->Bool
 | []=>true
 | d::ds=>ndK d&&aaL ds
end
mutual
def QH:PyData->Int
 | .int i=>hashInt i
 | .tuple ds=>reduceHash (Builtin.Tuple.tupleHashOf (QG ds))
 | _=>0
def QG:List PyData->List Int
 | []=>[]
 | d::ds=>QH d::QG ds
end
structure abz(d:PyData):Prop where
 t:∃ds,d=.tuple ds
 k:ndK d=true
 dp:d.depth<=8
section
variable{X:Cx}{ae:List (Addr×Obj)}{σ:St}{H:Hp}{s:AB}{a:Addr}{kvs:List (PyData×V)}
def abA(H:Hp)(d:PyData)(y:V):Prop:=abz d/\At H d y
end
section
variable{X:Cx}
end
section
variable{P:AC}{w:World}{K:Frag}{mg:Str->Option AA}{base:Heap}{N:List Str}{qual:Str}{scope:Scope}{f:Addr}{cd:AA}{A:Around}{outer:List Env}{s0:AB}{H0:Hp}{E:XK}
theorem Lj{ae:List (Addr×Obj)}{σ:St}{H1:Hp}{s1 s':AB}{e:AA}{E':XK}(I:Inv (gq (mz P w) P w K mg base N qual scope f cd A outer s0 H0 E) ae σ H1 s1)(c:mz P w (envOfC qual scope s0.heap.objs.size f cd::outer) H1 s1 E' e s')
  (hE:∀cls H2,E' cls none H2->∀H3,(aJ H1 H2->aJ H1 H3)->E cls none H3):(gq (mz P w) P w K mg base N qual scope f cd A outer s0 H0 E).xe e s':=by
 obtain⟨a,T0,cls,H2,rfl,os,bare,un,hok,ha,hT0,n0,⟨na',Xo⟩,q⟩:=c;have na:H1 a=none:=I.hok.none na';have nT0:H1 T0=none:=I.hok.none Xo;have q:=hE cls H2 q;have I2:Inv (gq (mz P w) P w K mg base N qual scope f cd A outer s0 H0 E) ae σ H2 s':=I.call' (ch:=[]) os un hok bare fun b z=>nomatch z
 have ff:s'.heap.FunFrames base (envOfC qual scope s0.heap.objs.size f cd::outer):=I2.stack;have fr:(A.deeper (envOfC qual scope s0.heap.objs.size f cd)).frames=some (envOfC qual scope s0.heap.objs.size f cd::outer):=I2.ok.frames;show wpAny _ _ (leaving (envOfC qual scope s0.heap.objs.size f cd) (.ref a)) _ _ _;unfold leaving;refine aL ?_;refine noteE2 fr ff rfl (xT.at (hok a _ ha)) (yM.at (hok T0 _ hT0)) n0 fun h3 T nt=>?_
 have fT:s'.heap.get? T=none:=by
  cases z:s'.heap.get? T with
  | none=>rfl
  | some o=>exact absurd (bI z) (Nat.not_lt.mpr nt.fresh)
 have nT:H2 T=none:=hok.none fT;have Ta:T≠a:=fun z=>by rw[z,ha] at nT; cases nT
 have TT:T≠T0:=fun z=>by rw[z,hT0] at nT; cases nT
 have I3:Inv (gq (mz P w) P w K mg base N qual scope f cd A outer s0 H0 E) ae σ (upd (upd (upd H2 T0 (RL T0)) a (xT a cls T)) T (yM T)) { s' with heap:=h3 }:=by
  refine I2.ext (fun b=>b=a\/b=T0\/b=T) (fun b o z y x=>nt.keep b o (fun w=>z (.inl w)) (fun w=>z (.inr (.inl w))) y x) (fun b o z x=>nt.slot b o (fun w=>z (.inl w)) (fun w=>z (.inr (.inl w))) x) (fun b o z x=>?_) (fun b z=>?_) (fun b z=>?_) (fun b u z y=>?_)
  ·rcases z with rfl | rfl | rfl
   ·obtain⟨oe,vs,e1,_⟩:=nt.ex; exact⟨_,e1⟩
   ·exact nt.old
   ·rw[fT] at x; cases x
  ·rcases z with rfl | rfl | rfl
   ·exact .inr ⟨_,ha⟩
   ·exact .inr ⟨_,hT0⟩
   ·exact .inl ⟨nT,fT⟩
  ·rw[aC fun w=>z (.inr (.inr w)),aC fun w=>z (.inl w),aC fun w=>z (.inr (.inl w))]
  ·rcases z with rfl | rfl | rfl
   ·rw[aC (Ne.symm Ta),aB] at y; cases y; exact Qf nt.ex
   ·rw[aC (Ne.symm TT),aC n0,aB] at y; cases y; exact VL nt.old
   ·rw[aB] at y; cases y; exact JM nt.tb
 have YT:upd (upd (upd H2 T0 (RL T0)) a (xT a cls T)) T (yM T) a=some (xT a cls T):=by rw[aC (Ne.symm Ta),aB]
 have hT3:upd (upd (upd H2 T0 (RL T0)) a (xT a cls T)) T (yM T) T=some (yM T):=aB
 have sm:aJ H1 H2->aJ H1 (upd (upd (upd H2 T0 (RL T0)) a (xT a cls T)) T (yM T)):=fun y b o z=>by
  have g:=y b o z;rw[aC (fun w=>by rw[w,nT] at g; cases g),aC (fun w=>by rw[w,na] at z; cases z),aC (fun w=>by rw[w,nT0] at z; cases z)]
  exact g
 refine⟨a,T,cls,_,rfl,I3.os,I3.bare,I3.base,I3.hok,YT,hT3,Ta,⟨?_,?_⟩,q _ sm⟩
 ·cases z:s0.heap.get? a with
  | none=>rfl
  | some o=>
   obtain⟨o',g⟩:=(show Un (frs outer) [] H0 H1 s0.heap s1.heap from I.base).there a o z (by simp)
   rw[na'] at g; cases g
 ·cases z:s0.heap.get? T with
  | none=>rfl
  | some o=>
   obtain⟨o',g⟩:=(show Un (frs outer) [] H0 H2 s0.heap s'.heap from I2.base).there T o z (by simp)
   rw[fT] at g; cases g
def Oq(sp:Sp)(uN:List V)(E:XK)(t:TA):TE:=fun σ H Q=>t σ H fun vs H1=>sp (vs++uN) H1 Q (fun cls _ H2=>∀H3,(aJ H1 H2->aJ H1 H3)->E cls none H3)
theorem R_{ae:List (Addr×Obj)}{σ:St}{H:Hp}{s:AB}{Q:VK}{us:List AA}{vs:List V}{k:Nat}{x:Str}{ps:List Str}{sp:Sp}(c:Rt P w K mg base k x ps sp)(hr:dR k (A.deeper (envOfC qual scope s0.heap.objs.size f cd)))(I:Inv (gq (mz P w) P w K mg base N qual scope f cd A outer s0 H0 E) ae σ H s)(r:Vals vs us)
  (q:sp vs H Q (fun cls _ H2=>∀H3,(aJ H H2->aJ H H3)->E cls none H3)):wpAny (model P w) (A.deeper (envOfC qual scope s0.heap.objs.size f cd)) (call (.ref c.f) us) (EP (gq (mz P w) P w K mg base N qual scope f cd A outer s0 H0 E) ae σ Q) (gq (mz P w) P w K mg base N qual scope f cd A outer s0 H0 E).xe s:=by
 have hl2:us.length=ps.length:=by rw[<- r.length]; exact c.G.len _ _ _ _ q
 have hb:=c.b s us I.lg (by rw[oX]; exact hl2)
 rw[oX] at hb;refine wpAny_call (codeAny_mono (c.G.run _ _ s H ⟨us,[]⟩ us vs _ _ hr I.env0 hb r q) fun r s' z=>?_);cases r with
 | error e'=>
  have z':mz P w (envOfC qual scope s0.heap.objs.size f cd::outer) H s (fun cls _ H2=>∀H3,(aJ H H2->aJ H H3)->E cls none H3) e' s':=z;exact Lj I z' fun cls H2 y=>y
 | ok fl=>
  cases fl with
  | ret u=>
   obtain⟨v,H2,I2,rv2,q2⟩:=I.after z;exact⟨v,H2,I2,rv2,q2⟩
  | next=>exact False.elim z
  | brk=>exact False.elim z
  | cont=>exact False.elim z
theorem pfe{k:Nat}{x:Str}{p pos:Pos}{e:Expr}{es:List Expr}{ps:List Str}{sp:Sp}{t:TA}(c:Rt P w K mg base k x ps sp)(hr:dR k (A.deeper (envOfC qual scope s0.heap.objs.size f cd)))(ha:PA (gq (mz P w) P w K mg base N qual scope f cd A outer s0 H0 E) (e::es) t)
  (hg: ~~~(Gl (gq (mz P w) P w K mg base N qual scope f cd A outer s0 H0 E) x)) (hdb:((x==("__debug__" : Str))=false)⁻¹) (h1: ~~~(bJ e=true)) (h2: ~~~(es.all bJ=true)) :
  PE (gq (mz P w) P w K mg base N qual scope f cd A outer s0 H0 E) (.Call (.Name x p) (e::es) [] pos) (Oq sp [] E t):=by
 symm;intro Q I h;refine qQ (qY I hg c.m ?_ hdb);refine callWith_K (h₀:=base) I.ok.mod.Qq c.kp (cA (ha pos ae s σ H _ I h) fun us s1 ⟨vs,H1,I1,r,q⟩=>⟨I1.lg,?_⟩) (bU h1) (b7 h2);dsimp only at q;rw[oX] at q;exact R_ c hr I1 r q
end
abbrev TX:=St->Hp->VK->(AA->Hp->Hp->Prop)->Prop
abbrev M8:=Ends->(AA->St->Hp->Hp->Prop)->St->Hp->Prop
def XL(X:Cx)(ae:List (Addr×Obj))(σ:St)(EE:AA->Hp->Hp->Prop):AA->AB->Prop:=fun e s'=>∃H1 s1 E',Inv X ae σ H1 s1/\mz X.prog X.w X.stack H1 s1 E' e s'/\∀cls H2,E' cls none H2->EE cls H1 H2
def XLs(X:Cx)(ae:List (Addr×Obj))(EE:AA->St->Hp->Hp->Prop):AA->AB->Prop:=fun e s'=>∃σ1 H1 s1 E',Inv X ae σ1 H1 s1/\mz X.prog X.w X.stack H1 s1 E' e s'/\∀cls H2,E' cls none H2->EE cls σ1 H1 H2
structure PX(X:Cx)(e:Expr)(t:TX):Prop where
 mk ::
 go:∀(ae:List (Addr×Obj))(s:AB)(σ:St)(H:Hp)(Q:VK)(EE:AA->Hp->Hp->Prop),Inv X ae σ H s->t σ H Q EE->wpAny (model X.prog X.w) X.A (eval e X.env) (EP X ae σ Q) (XL X ae σ EE) s
structure PSX(X:Cx)(st:Stmt)(t:M8):Prop where
 mk ::
 go:∀(ae:List (Addr×Obj))(s:AB)(σ:St)(H:Hp)(D:Ends)(EE:AA->St->Hp->Hp->Prop),Inv X ae σ H s->t D EE σ H->wpAny (model X.prog X.w) X.A (exec st X.env) (SP X ae D) (XLs X ae EE) s
structure abu(X:Cx)(st:List Stmt)(t:M8):Prop where
 mk ::
 go:∀(ae:List (Addr×Obj))(s:AB)(σ:St)(H:Hp)(D:Ends)(EE:AA->St->Hp->Hp->Prop),Inv X ae σ H s->t D EE σ H->wpAny (model X.prog X.w) X.A (execs st X.env) (SP X ae D) (XLs X ae EE) s
def xPe(te:TE):TX:=fun σ H Q _=>te σ H Q
def ZC(sp:Sp)(uN:List V)(ta:TA):TX:=fun σ H Q EE=>ta σ H fun vs H1=>sp (vs++uN) H1 Q (fun cls _ H2=>EE cls H1 H2)
def xIf(tc:TT)(a b:TX):TX:=fun σ H Q EE=>tc σ H fun d H1=>if d=true then a σ H1 Q EE else b σ H1 Q EE
def acC(i:Nat)(t:TX):M8:=fun D EE σ H=>t σ H (fun v H'=>D.nx (σ.set i (some v)) H') (fun cls H1 H2=>EE cls σ H1 H2)
def Vd(t:TX):M8:=fun D EE σ H=>t σ H (fun _ H'=>D.nx σ H') (fun cls H1 H2=>EE cls σ H1 H2)
def acG(tc:TT)(a b:M8):M8:=fun D EE σ H=>tc σ H fun d H1=>if d=true then a D EE σ H1 else b D EE σ H1
def xPs(t:TS):M8:=fun D _ σ H=>t D σ H
def acD(a b:M8):M8:=fun D EE σ H=>a { D with nx:=fun σ' H'=>b D EE σ' H' } EE σ H
section
variable{X:Cx}
theorem Pq{e:Expr}{te:TX}{pos:Pos}(he:PX X e te)(hs: ~~~(swapsWith e none pos.line X.env=pure false)):PSX X (.Expr e pos) (Vd te):=by
 symm;intro D EE I h;refine wpAny_Expr_any (jj (he.go ae s σ H _ _ I h) (fun v s1 ⟨x,H1,I1,r1,q1⟩=>⟨σ,H1,I1,q1⟩) fun e s z=>?_) I.quiet hs;obtain⟨H1,s1,E',I1,c,q⟩:=z;exact⟨σ,H1,s1,E',I1,c,q⟩
theorem Pn{st:Stmt}{a:M8}(ha:PSX X st a):abu X [st] a:=by
 symm;intro D EE I h;refine wpAny_execs_cons (jj (ha.go ae s σ H _ EE I h) (fun fl s1 z=>?_) fun _ _ z=>z);cases fl with
 | next=>exact El z
 | ret u=>exact z
 | brk=>exact z
 | cont=>exact z
end
section
variable{X:Cx}
end
abbrev oV(K:Frag)(x:Str)(st:Stmt)(f:Addr):Prop:=∃(oc:AA)(od an:Option Addr)(sl:Array (Option AA))(kV dc pm cd ct:AA),nsIn K mainGlobals x=some (some (.ref f))/\K.lookup f=some ⟨oc,od,.func (fnOf x x (b_ st) (bT st) (aG st) .none kV dc pm an cd ct),sl⟩/\codeIn K cd x=true/\keepIn K (.ref f)=true
abbrev Wb(K:Frag)(x:Str)(st:Stmt)(f:Addr)(T:Addr)(i:Int):Prop:=∃(oc oT:AA)(od an dT:Option Addr)(sl sT:Array (Option AA))(kV dc pm cd ct:AA)(t:Tok)(nT:Nat),nsIn K mainGlobals x=some (some (.ref f))/\K.lookup f=some ⟨oc,od,.func (fnOf x x (b_ st) (bT st) (aG st) (.ref T) kV dc pm an cd ct),sl⟩/\codeIn K cd x=true/\keepIn K (.ref f)=true/\K.lookup T=some ⟨oT,dT,.seq #[.int i t] nT,sT⟩
structure Has(K:Frag)(mg:Str->Option AA)(x:Str)(st:Stmt)(ps:List Str) where
 f:Addr
 fd:FuncData
 F:i_ K x x st f fd
 b:Binds K fd ps []
 m:mg x=some (.ref f)
structure Yu(K:Frag)(mg:Str->Option AA)(x:Str)(st:Stmt)(ps:List Str)(i:Int) where
 f:Addr
 fd:FuncData
 T:Addr
 t:Tok
 F:Im K x x st f fd T i t
 b:Binds K fd ps []
 bd:Binds K fd ps [.int i t]
 m:mg x=some (.ref f)
section
variable{K:Frag}{h:Heap}{mg:Str->Option AA}
theorem oV.mk{x:Str}{st:Stmt}{f:Addr}{oc:AA}{od an:Option Addr}{sl:Array (Option AA)}{kV dc pm cd ct:AA}(a:nsIn K mainGlobals x=some (some (.ref f)))(l:K.lookup f=some ⟨oc,od,.func (fnOf x x (b_ st) (bT st) (aG st) .none kV dc pm an cd ct),sl⟩)(c:codeIn K cd x=true)(k:keepIn K (.ref f)=true):oV K x st f:=⟨oc,od,an,sl,kV,dc,pm,cd,ct,a,l,c,k⟩
theorem Wb.mk{x:Str}{st:Stmt}{f T:Addr}{i:Int}{oc oT:AA}{od an dT:Option Addr}{sl sT:Array (Option AA)}{kV dc pm cd ct:AA}{t:Tok}{nT:Nat}(a:nsIn K mainGlobals x=some (some (.ref f)))(l:K.lookup f=some ⟨oc,od,.func (fnOf x x (b_ st) (bT st) (aG st) (.ref T) kV dc pm an cd ct),sl⟩)(c:codeIn K cd x=true)(k:keepIn K (.ref f)=true)(e:K.lookup T=some ⟨oT,dT,.seq #[.int i t] nT,sT⟩):Wb K x st f T i:=⟨oc,oT,od,an,dT,sl,sT,kV,dc,pm,cd,ct,t,nT,a,l,c,k,e⟩
theorem oV.has{x:Str}{st:Stmt}{f:Addr}(e:oV K x st f)(X:K.In h)(G:h.Ns mainGlobals mg){ps:List Str}(H:∀(kV doc pm:AA) (an:Option Addr) (cdv ct:AA) (us:List AA),us.length=ps.length->bindArgs (fnOf x x (b_ st) (bT st) (aG st) .none kV doc pm an cdv ct) ⟨us,[]⟩=pure (ps.zip us)):Nonempty (Has K mg x st ps):=by
 obtain⟨oc,od,an,sl,kV,dc,pm,cd,ct,a,l,c,k⟩:=e;have F:=Hy (st:=st) l c k;exact⟨⟨_,_,F,F.binds H,mg_of X G a⟩⟩
theorem Wb.has{x:Str}{st:Stmt}{f T:Addr}{i:Int}(e:Wb K x st f T i)(X:K.In h)(G:h.Ns mainGlobals mg){ps:List Str}
  (H:∀(t:Tok)(kV doc pm:AA)(an:Option Addr)(cdv ct:AA)(us:List AA),(us++[]).length=ps.length->∃k,bindArgs (fnOf x x (b_ st) (bT st) (aG st) (.ref T) kV doc pm an cdv ct) ⟨us,[]⟩=seqItems? (.ref T) >>= k/\k (some #[.int i t])=pure (ps.zip (us++[])))
  (H':∀(t:Tok)(kV doc pm:AA)(an:Option Addr)(cdv ct:AA)(us:List AA),(us++[Value.int i t]).length=ps.length->∃k,bindArgs (fnOf x x (b_ st) (bT st) (aG st) (.ref T) kV doc pm an cdv ct) ⟨us,[]⟩=seqItems? (.ref T) >>= k/\k (some #[.int i t])=pure (ps.zip (us++[.int i t]))):Nonempty (Yu K mg x st ps i):=by
 obtain⟨oc,oT,od,an,dT,sl,sT,kV,dc,pm,cd,ct,t,nT,a,l,c,k,e⟩:=e;have F:Im K x x st f _ T i t:=⟨⟨_,_,_,_,_,_,_,_,_,rfl,l,c⟩,k,⟨_,_,e,rfl⟩⟩;exact⟨⟨_,_,_,_,F,F.binds (H t),F.binds (H' t),mg_of X G a⟩⟩
def Has.ct{x:Str}{st:Stmt}{ps:List Str}{k:Nat}{sp:Sp}(h:Has K mg x st ps)(P:AC)(w:World)(base:Heap)(G:bH P w K mg base ig k h.f h.fd ps sp):Ct P w K mg base k x ps sp:=⟨h.f,h.fd,G,h.F.kp,h.b,h.m⟩
def Has.Zb{x:Str}{st:Stmt}{ps:List Str}{k:Nat}{sp:Sp}(h:Has K mg x st ps)(P:AC)(w:World)(base:Heap)(G:bH P w K mg base (mz P w) k h.f h.fd ps sp):Rt P w K mg base k x ps sp:=⟨h.f,h.fd,G,h.F.kp,h.b,h.m⟩
def Yu.ct{x:Str}{st:Stmt}{ps:List Str}{i:Int}{k:Nat}{sp:Sp}(h:Yu K mg x st ps i)(P:AC)(w:World)(base:Heap)(G:bH P w K mg base ig k h.f h.fd ps sp):RK P w K mg base k x ps i sp:=⟨h.f,h.fd,h.t,G,h.F.kp,h.b,h.bd,h.m⟩
abbrev Nb(K:Frag)(x:Str):Prop:=nsIn K mainGlobals x=some none
abbrev Ni(K:Frag)(x:Str)(i:Int):Prop:=∃t,nsIn K mainGlobals x=some (some (.int i t))
abbrev Dc(K:Frag)(x s:Str):Prop:=∃t,nsIn K mainGlobals x=some (some (.str s t))
theorem Ni.mk{x:Str}{i:Int}{t:Tok}(a:nsIn K mainGlobals x=some (some (.int i t))):Ni K x i:=⟨t,a⟩
theorem Dc.mk{x s:Str}{t:Tok}(a:nsIn K mainGlobals x=some (some (.str s t))):Dc K x s:=⟨t,a⟩
theorem Ni.gi{x:Str}{i:Int}(e:Ni K x i)(X:K.In h)(G:h.Ns mainGlobals mg):Gi mg x i:=let ⟨t,z⟩:=e; ⟨t,mg_of X G z⟩
theorem Dc.gs{x s:Str}(e:Dc K x s)(X:K.In h)(G:h.Ns mainGlobals mg):Gs mg x s:=let ⟨t,z⟩:=e; ⟨t,mg_of X G z⟩
abbrev NT(K:Frag)(x:Str)(vs:List AA):Prop:=∃(a:Addr)(n:Nat)(sl:Array (Option AA)),nsIn K mainGlobals x=some (some (.ref a))/\K.lookup a=some ⟨.type "tuple",none,.seq vs.toArray n,sl⟩
theorem NT.mk{x:Str}{vs:List AA}{a:Addr}{n:Nat}{sl:Array (Option AA)}(b:nsIn K mainGlobals x=some (some (.ref a)))(l:K.lookup a=some ⟨.type "tuple",none,.seq vs.toArray n,sl⟩):NT K x vs:=⟨a,n,sl,b,l⟩
end
theorem Rf:bootBuiltins "set" = some (.type "set"):=by decide +kernel
section
variable{X:Cx}{ae:List (Addr×Obj)}{σ:St}{H1:Hp}{s1 s':AB}
theorem My{e:AA}{E:XK}{D:Ends}{hx:Str}{CH:Addr}{hp pos:Pos}{b0:Stmt}{body:List Stmt}{ts:TS}(I:Inv X ae σ H1 s1)(c:mz X.prog X.w X.stack H1 s1 E e s')
  (hE:∀cls H2,E cls none H2->exmOne X.K cls (.ref CH)=some true/\∀a H3,(aJ H1 H2->aJ H1 H3)->abC H3 a cls->ts D σ H3)
  (hg:Gl X hx) (hm:X.mg hx=some (.ref CH)) (hs:∀e,Aj (X.in' e) (b0::body) ts) (hn:∀e s,X.xe e s->False) (st:X.stack=X.env::X.outer) (fL:X.env.frame=some X.env.locals) (hd:(hx==("__debug__" : Str))=false) :
  wpAny (model X.prog X.w) X.A (noteFrame e X.env) (fun _ s2=>wpAny (model X.prog X.w) X.A (setFlight e none) (fun _ s3=>wpAny (model X.prog X.w) X.A (handleBy e X.env [.ExceptHandler (some (.Name hx hp)) none (b0::body) pos]) (SP X ae D) X.xe s3) X.xe s2) X.xe s':=by
 obtain⟨a,T0,cls,H2,rfl,os,bare,un,hok,ha,hT0,n0,⟨na',Xo⟩,q⟩:=c;have na:H1 a=none:=I.hok.none na';have nT0:H1 T0=none:=I.hok.none Xo;obtain⟨ex,q⟩:=hE cls H2 q;have I2:Inv X ae σ H2 s':=I.call' (ch:=[]) os un hok bare fun b z=>nomatch z
 have ff:s'.heap.FunFrames X.base (X.env::X.outer):=by rw[<- st]; exact I2.stack
 have fr:X.A.frames=some (X.env::X.outer):=by rw[<- st]; exact I2.ok.frames
 refine noteE2 fr ff fL (xT.at (hok a _ ha)) (yM.at (hok T0 _ hT0)) n0 fun h3 T nt=>?_
 have fT:s'.heap.get? T=none:=by
  cases z:s'.heap.get? T with
  | none=>rfl
  | some o=>exact absurd (bI z) (Nat.not_lt.mpr nt.fresh)
 have nT:H2 T=none:=hok.none fT;have Ta:T≠a:=fun z=>by rw[z,ha] at nT; cases nT
 have TT:T≠T0:=fun z=>by rw[z,hT0] at nT; cases nT
 have I3:Inv X ae σ (upd (upd (upd H2 T0 (RL T0)) a (xT a cls T)) T (yM T)) { s' with heap:=h3 }:=by
  refine I2.ext (fun b=>b=a\/b=T0\/b=T) (fun b o z y x=>nt.keep b o (fun w=>z (.inl w)) (fun w=>z (.inr (.inl w))) (by rw[<- st]; exact y) x) (fun b o z x=>nt.slot b o (fun w=>z (.inl w)) (fun w=>z (.inr (.inl w))) x) (fun b o z x=>?_) (fun b z=>?_) (fun b z=>?_) (fun b u z y=>?_)
  ·rcases z with rfl | rfl | rfl
   ·obtain⟨oe,vs,e1,_⟩:=nt.ex; exact⟨_,e1⟩
   ·exact nt.old
   ·rw[fT] at x; cases x
  ·rcases z with rfl | rfl | rfl
   ·exact .inr ⟨_,ha⟩
   ·exact .inr ⟨_,hT0⟩
   ·exact .inl ⟨nT,fT⟩
  ·rw[aC fun w=>z (.inr (.inr w)),aC fun w=>z (.inl w),aC fun w=>z (.inr (.inl w))]
  ·rcases z with rfl | rfl | rfl
   ·rw[aC (Ne.symm Ta),aB] at y; cases y; exact Qf nt.ex
   ·rw[aC (Ne.symm TT),aC n0,aB] at y; cases y; exact VL nt.old
   ·rw[aB] at y; cases y; exact JM nt.tb
 have YT:upd (upd (upd H2 T0 (RL T0)) a (xT a cls T)) T (yM T) a=some (xT a cls T):=by rw[aC (Ne.symm Ta),aB]
 have hT3:upd (upd (upd H2 T0 (RL T0)) a (xT a cls T)) T (yM T) T=some (yM T):=aB
 have sm:aJ H1 H2->aJ H1 (upd (upd (upd H2 T0 (RL T0)) a (xT a cls T)) T (yM T)):=fun y b o z=>by
  have g:=y b o z;rw[aC (fun w=>by rw[w,nT] at g; cases g),aC (fun w=>by rw[w,na] at z; cases z),aC (fun w=>by rw[w,nT0] at z; cases z)]
  exact g
 have q3:=q a _ sm ⟨T,YT⟩;generalize upd (upd (upd H2 T0 (RL T0)) a (xT a cls T)) T (yM T)=H3 at I3 YT hT3 q3;generalize ({ s' with heap:=h3 }:AB)=s3 at I3
 refine wpAny_handleBy_cons (codeAny_handlers_test ?_) (by intro z; cases z)
 refine Calls.Name_function_global I3.ok.kind hg (Calls.loadGlobal_global (by rw[I3.ok.glob]; exact I3.mod.glob.keeps I3.bk) hm ?_) hd
 obtain⟨oe,vs,e1,⟨ec,_⟩,ed,ev⟩:=xT.at (I3.hok a _ YT);have LT:PySem.W.Looks (model X.prog X.w) s3.heap (typeOf (.ref a)) cls:=ec▸(PySem.W.Looks.ld e1).andThen .now;refine(PySem.W.exm_one I3.lg LT ex).here ?_;refine codeAny_handlers_suite (Mr I3 YT hT3 fun s4 I4=>?_);refine jj (hs (.ref a) ae s4 _ _ _ (I4.inE (.ref a)) q3) (fun fl s6 z=>?_) fun e6 s6 z=>(hn _ _ z).elim;cases fl with
 | next=>
  obtain⟨σ6,H6,I6,q6⟩:=z;exact⟨σ6,H6,I6.Tv I4.ok,q6⟩
 | ret u=>
  obtain⟨v,σ6,H6,I6,rv,q6⟩:=z;exact⟨v,σ6,H6,I6.Tv I4.ok,rv,q6⟩
 | brk=>
  obtain⟨σ6,H6,I6,q6⟩:=z;exact⟨σ6,H6,I6.Tv I4.ok,q6⟩
 | cont=>
  obtain⟨σ6,H6,I6,q6⟩:=z;exact⟨σ6,H6,I6.Tv I4.ok,q6⟩
def Iz(ok:AA->Prop)(tb:M8)(ts:TS):TS:=fun D σ H=>tb D (fun cls σ1 H1 H2=>ok cls/\∀a H3,(aJ H1 H2->aJ H1 H3)->abC H3 a cls->ts D σ1 H3) σ H
theorem S5{K:Frag}{hx:Str}{CH:Addr}{hp pos tp:Pos}{body:List Stmt}{b0:Stmt}{suite:List Stmt}{tb:M8}{ts:TS}(hK:X.K=K)
  (hb:abu X body tb) (hs:∀e,Aj (X.in' e) (b0::suite) ts) (hm:X.mg hx=some (.ref CH)) (hgx: ~~~(Gl X hx))
  (hn: autoParam (∀e s,X.xe e s->False) zi._auto_1) (st: ~~~(X.stack=X.env::X.outer)) (fL: ~~~(X.env.frame=some X.env.locals)) (hd:((hx==("__debug__" : Str))=false)⁻¹) :
  PS X (.Try body [.ExceptHandler (some (.Name hx hp)) none (b0::suite) pos] [] [] tp) (Iz (fun cls=>exmOne K cls (.ref CH)=some true) tb ts):=by
 subst hK;symm;intro D I h;refine wpAny_Try_except (jj (hb.go ae s σ H D _ I h) (fun fl s1 z=>?_) fun e s' z=>?_)
 ·cases fl with
  | next=>exact El z
  | ret u=>exact z
  | brk=>exact z
  | cont=>exact z
 ·obtain⟨σ1,H1,s1,E',I1,c,q⟩:=z;exact My I1 c q hgx hm hs hn st fL hd
end
section
variable{P:AC}{w:World}{K:Frag}{mg:Str->Option AA}{base:Heap}
structure CtF(P:AC)(w:World)(K:Frag)(mg:Str->Option AA)(base:Heap)(k:Nat)(x:Str)(ps:List Str)(i:Int)(sp:Sp) where
 f:Addr
 fd:FuncData
 t:Tok
 G:bH P w K mg base (mz P w) k f fd ps sp
 kp:keepIn K (.ref f)=true
 b:Binds K fd ps []
 bd:Binds K fd ps [.int i t]
 m:mg x=some (.ref f)
end
section
variable{X:Cx}
end
section
variable{X:Cx}
def aal:List V->Hp->VK->Prop:=fun vs H Q=>∃j:Int,vs=[.int j]/\-(2 ^ 62)<=j/\j<2 ^ 62/\∀p H',H p=none->aJ H H'->H' p=some (.YG 0 j)->Q (.ref p) H'
def aan:List V->Hp->VK->Prop:=fun vs H Q=>∃(p:Addr)(j:Int),vs=[.ref p]/\H p=some (.YG 0 j)/\-(2 ^ 62)<=j/\j<2 ^ 62/\j.toNat<=1000/\∀l H',H l=none->aJ H H'->H' l=some (.lst ((List.range j.toNat).map fun i:Nat=>V.int i))->Q (.ref l) H'
end
def iOr(a b:TI):TI:=fun σ H R=>a σ H R\/b σ H R
theorem PI.or{X:Cx}{tg it:Expr}{a b:TI}(h:PI X tg it a)(h':PI X tg it b):PI X tg it (iOr a b):=.mk fun ae s σ H R I q=>q.elim (h ae s σ H R I) (h' ae s σ H R I)
theorem yX{nt:Nat}{js:List Nat}{a b:TI}{g:TG}{tc:TT}{te:TE}{σ:St}{H:Hp}{Q:VK}:eN nt js (iOr a b) g tc te σ H Q=(eN nt js a g tc te σ H Q\/eN nt js b g tc te σ H Q):=rfl
theorem Tf{X:Cx}{K:Frag}{e e':Expr}{elts:List Expr}{x1}{tp p pos:Pos}{ta:TA}(hK:X.K=K)(hm:X.mg "zip" = none)(ha:PA X [e,e'] ta)(hg: ~~~(Gl X "zip"))(h1: ~~~(bJ e=true))(h2: ~~~(bJ e'=true)) :
  PI X (.Tuple elts x1 tp) (.Call (.Name "zip" p) [e,e'] [] pos) (iOr (Qz K ta) (J5 K ta)):=.or (Td hK hm ha hg h1 h2) (JD hK hm ha hg h1 h2)
section
variable{X:Cx}
theorem Dn{xs:List V}:∀{us:List AA},Vals xs us->∀{j:Nat}{x:V},xs[j]?=some x->∃u,us[j]?=some u/\RelV x u:=by
 induction xs with
 | nil=>intro us _ j x h; simp at h
 | cons y ys ih=>
  intro us r j x h;cases r with
  | cons r1 r2=>
   cases j with
   | zero=>simp at h; subst h; exact⟨_,rfl,r1⟩
   | succ j=>simp at h; obtain⟨u,h1,h2⟩:=ih r2 h; exact⟨u,by simpa using h1,h2⟩
theorem Ky{xs:List V}:∀{us:List AA},Vals xs us->∀{j:Nat}{u:AA},us[j]?=some u->∃x,xs[j]?=some x/\RelV x u:=by
 induction xs with
 | nil=>intro us r j u h; cases r; simp at h
 | cons y ys ih=>
  intro us r j x h;cases r with
  | cons r1 r2=>
   cases j with
   | zero=>simp at h; subst h; exact⟨_,rfl,r1⟩
   | succ j=>simp at h; obtain⟨u,h1,h2⟩:=ih r2 h; exact⟨u,by simpa using h1,h2⟩
end
section
variable{X:Cx}
theorem rR(hu:X.A.units+64<cLine):M_ X (fun o i v H Q=>∃a H',o=.ref a/\qz H a i v H'/\Q H'):=by
 symm;intro o i v ov iv u Q I ro ri rv h;obtain⟨a,H',rfl,g,q⟩:=h;cases ro;exact z9 ∅ I g ri rv fun s' I'=>⟨H',I',q⟩
theorem pL(hu:X.A.units+64<cLine):Nq X (fun x y H Q=>∃a v,x=.ref a/\iV H a y (some v)/\Q v H):=by
 refine .mk ?_;intro value slice ae s σ H x y v u Q I rx ry h hs;obtain⟨a,v',rfl,g,q⟩:=h;cases rx;have hT:=Fz I g;unfold subscriptTail;refine aL ?_;rw[getitemInPython_of_ne hT.not_modules];refine aL (wpAny_specialOf hT PySem.F.slot_dict_getitem.lookup ?_)
 have fin:wpAny (model X.prog X.w) X.A (subscripted slice false (.ref a) u) (fun r s₃=>wpAny (model X.prog X.w) X.A (letTemporaryGo value (.ref a) r >>= fun _=>pure r) (EP X ae σ Q) X.xe s₃) X.xe s:=by
  rw[hs];exact wpAny_operating (z_ ∅ I g ry fun w' s' I' Bb=>aL (wpAny_letTemporaryGo (bL ⟨v',H,I',Bb,q⟩)))
 first
  | exact bL (aL fin)
  | exact aL (bL (aL fin))
  | exact aL fin
end
section
variable{X:Cx}
end
section
variable{X:Cx}
def aaq:V->List V->Hp->VK->Prop:=fun x vs H Q=>∃(l:Addr)(ns:List V)(j:Int)(i:Nat)(n:V),x=.ref l/\vs=[.int j,n]/\j=(i:Int)/\H l=some (.lst ns)/\i<=ns.length/\ns.length<1000/\Q .non (upd H l (.lst (ns.take i++n::ns.drop i)))
theorem Hk:MtM X "list.insert" aaq:=by
 intro ae s σ H x vs v us Q I rx rv h;obtain⟨l,ns,ij,i,n,rfl,rfl,hij,hH,hi,hn,q⟩:=h;cases rx;obtain⟨u,u2,rfl,⟨t,rfl⟩,ru⟩:=rv.two;obtain⟨z,its,k,r,hl,e⟩:=I.Qm hH;have hlen:=r.length;have hs:1000<sizeLine:=aR (bc _);have ss:its.toArray.size<=sizeLine:=by rw[d_]; omega
 have fi:¬(!Builtin.List.listFitsIndex ij)=true:=QV ∅ ∅
 have mm:=AutoListH.list_insert_list_int_val_1 l its.toArray k ij t u2 fi ss;have aa:argsOk "list.insert" ⟨[Value.ref l,Value.int ij t,u2],[]⟩:=Rj _ _ _;refine call_meets PySem.F.slot_list_insert ⟨_,e,rfl⟩ PySem.F.entry_list_insert aa mm ⟨e,?_⟩
 ·have rt:∀{xs:List V}{ys:List AA}(j:Nat),Vals xs ys->Vals (xs.take j) (ys.take j):=fun {xs ys} j q=>by
   induction j generalizing xs ys with
   | zero=>exact(.nil:Vals [] [])
   | succ j ih=>
    cases q with
    | nil=>exact(.nil:Vals [] [])
    | cons a b=>exact .cons a (ih b)
  have rd:∀{xs:List V}{ys:List AA}(j:Nat),Vals xs ys->Vals (xs.drop j) (ys.drop j):=fun {xs ys} j q=>by
   induction j generalizing xs ys with
   | zero=>simpa using q
   | succ j ih=>
    cases q with
    | nil=>exact(.nil:Vals [] [])
    | cons a b=>exact ih b
  refine⟨.non,_,I.aaT (its':=its.take i++(u2::its.drop i)) hH e ?_ ((rt i r).append (.cons ru (rd i r))) ?_,rfl,q⟩
  ·have ek:(if ij<0 then(ij+((its.toArray.size:Nat):Int)).toNat else min ij.toNat its.toArray.size)=i:=by
    rw[aN ∅,hij,qN,d_]; omega
   show(its.toArray.extract 0 (if ij<0 then(ij+((its.toArray.size:Nat):Int)).toNat else min ij.toNat its.toArray.size)).push u2++its.toArray.extract (if ij<0 then(ij+((its.toArray.size:Nat):Int)).toNat else min ij.toNat its.toArray.size)=_
   rw[ek]
   apply Array.ext'
   simp[List.take_take];exact Jt (by rw[uw]; exact bc _)
  ·simp;omega
end
section
variable{X:Cx}
end
def xB(r:List V->Hp->VK->Prop)(t:TX):TX:=fun σ H Q EE=>t σ H (fun v H1=>r [v] H1 Q) EE
section
variable{X:Cx}
end
theorem Q4{K:Frag}{nt:Nat}{g:TG}{js:List Nat}{a:Addr}{xs:List V}{tl te:TE}{σ:St}{H:Hp}{Q:VK}(τ:Nat->St)(hτ:∀i,(τ i).length=nt)(hl:∀R:VK,R (.ref a) H->tl σ H R)(ha:H a=some (.tup xs))
  (h:∀acc,H acc=none->∃Pv:Nat->List V->Hp->Prop,Pv 0 [] (upd H acc (.lst []))/\(∀i ys H',Pv i ys H'->H' a=some (.tup xs)) /\
   (∀i x ys H',xs[i]?=some x->Pv i ys H'->(∀R:St->Hp->Prop,R (τ i++bW js σ) H'->g x (List.replicate nt none++bW js σ) H' R)/\te (τ i++bW js σ) H' fun y H4=>H4 acc=some (.lst ys)/\ys.length<sizeLine/\Pv (i+1) (ys++[y]) (upd H4 acc (.lst (ys++[y]))))/\∀ys H',Pv xs.length ys H'->Q (.ref acc) H'):eN nt js (Ft K tl) g qG te σ H Q:=by
 refine hl _ ⟨a,rfl,⟨xs,dU.of ha⟩,fun acc hacc=>?_⟩;obtain⟨Pv,p0,pA,ps,pf⟩:=h acc hacc;refine⟨fun i m ys H2=>m=xs.length-i/\i<=xs.length/\Pv i ys H2,⟨_,rfl,eV _,p0⟩,?_⟩;rintro i m ys H2 ⟨rfl,hi,hP⟩;have ht:dU K H2 a xs:=dU.of (pA _ _ _ hP);by_cases hlt:i<xs.length
 ·refine .inr ⟨⟨xs,xs[i],ht,cN hlt⟩,fun x H3 y=>?_⟩;obtain⟨e1,y⟩:=y;subst e1;obtain⟨gg,tt⟩:=ps i x ys _ (y xs ht) hP;refine gg _ ⟨⟨?_,?_⟩,?_⟩
  ·rw[SN (by rw[hτ]; exact bc _),<- hτ i,xZ,Bf]
  ·rw[cF,cF,hτ,pX]
  unfold qG;simp only[if_true]
  have e:(fun(y:V)(H4:Hp)=>H4 acc=some (.lst ys)/\ys.length<sizeLine/\Pv (i+1) (ys++[y]) (upd H4 acc (.lst (ys++[y]))))=fun y H4=>H4 acc=some (.lst ys)/\ys.length<sizeLine/\∃m',m'<xs.length-i/\(m'=xs.length-(i+1)/\i+1<=xs.length/\Pv (i+1) (ys++[y]) (upd H4 acc (.lst (ys++[y])))):=
   funext fun y=>funext fun H4=>propext ⟨fun⟨z1,z2,z3⟩=>⟨z1,z2,xs.length-(i+1),∅,rfl,hlt,z3⟩,fun⟨z1,z2,_,_,_,_,z3⟩=>⟨z1,z2,z3⟩⟩
  rw[e] at tt;exact tt
 ·have e:i=xs.length:=by omega
  subst e;exact .inl ⟨⟨xs,ht,bc _⟩,pf _ _ hP⟩
abbrev TAX:=St->Hp->(List V->Hp->Prop)->(AA->Hp->Hp->Prop)->Prop
structure PXA(X:Cx)(es:List Expr)(t:TAX):Prop where
 mk ::
 go:∀(pos:Pos)(ae:List (Addr×Obj))(s:AB)(σ:St)(H:Hp)(Q:List V->Hp->Prop)(EE:AA->Hp->Hp->Prop),Inv X ae σ H s->t σ H Q EE->wpAny (model X.prog X.w) X.A (spliced (backTo pos (starEach es X.env))) (AP X ae σ Q) (XL X ae σ EE) s
def acE:TAX:=fun _ H Q _=>Q [] H
def Zz(t:TX)(u:TAX):TAX:=fun σ H Q EE=>t σ H (fun v H1=>u σ H1 (fun vs H2=>Q (v::vs) H2) EE) EE
def acF(t:TAX):TX:=fun σ H Q EE=>t σ H (fun xs H1=>xs.length<=sizeLine/\∀p H',H1 p=none->aJ H1 H'->H' p=some (.lst xs)->Q (.ref p) H') EE
def acB(t:TAX):TX:=fun σ H Q EE=>t σ H (fun xs H1=>xs.length<=sizeLine/\∀p H',H1 p=none->aJ H1 H'->H' p=some (.tup xs)->Q (.ref p) H') EE
section
variable{X:Cx}
end
theorem Q6{K:Frag}{nt:Nat}{g:TG}{js:List Nat}{a:Addr}{xs:List V}{tl te:TE}{σ:St}{H:Hp}{Q:VK}(τ:Nat->St)(hτ:∀i,(τ i).length=nt)(hl:∀R:VK,R (.ref a) H->tl σ H R)(ha:H a=some (.lst xs))
  (h:∀acc,H acc=none->∃Pv:Nat->List V->Hp->Prop,Pv 0 [] (upd H acc (.lst []))/\(∀i ys H',Pv i ys H'->H' a=some (.lst xs)) /\
   (∀i x ys H',xs[i]?=some x->Pv i ys H'->(∀R:St->Hp->Prop,R (τ i++bW js σ) H'->g x (List.replicate nt none++bW js σ) H' R)/\te (τ i++bW js σ) H' fun y H4=>H4 acc=some (.lst ys)/\ys.length<sizeLine/\Pv (i+1) (ys++[y]) (upd H4 acc (.lst (ys++[y]))))/\∀ys H',Pv xs.length ys H'->Q (.ref acc) H'):eN nt js (nJ K tl) g qG te σ H Q:=by
 refine hl _ ⟨a,rfl,⟨xs,cz.of ha⟩,fun acc hacc=>?_⟩;obtain⟨Pv,p0,pA,ps,pf⟩:=h acc hacc;refine⟨fun i m ys H2=>m=xs.length-i/\i<=xs.length/\Pv i ys H2,⟨_,rfl,eV _,p0⟩,?_⟩;rintro i m ys H2 ⟨rfl,hi,hP⟩;have ht:cz K H2 a xs:=cz.of (pA _ _ _ hP);by_cases hlt:i<xs.length
 ·refine .inr ⟨⟨xs,xs[i],ht,cN hlt⟩,fun x H3 y=>?_⟩;obtain⟨e1,y⟩:=y;subst e1;obtain⟨gg,tt⟩:=ps i x ys _ (y xs ht) hP;refine gg _ ⟨⟨?_,?_⟩,?_⟩
  ·rw[SN (by rw[hτ]; exact bc _),<- hτ i,xZ,Bf]
  ·rw[cF,cF,hτ,pX]
  unfold qG;simp only[if_true]
  have e:(fun(y:V)(H4:Hp)=>H4 acc=some (.lst ys)/\ys.length<sizeLine/\Pv (i+1) (ys++[y]) (upd H4 acc (.lst (ys++[y]))))=fun y H4=>H4 acc=some (.lst ys)/\ys.length<sizeLine/\∃m',m'<xs.length-i/\(m'=xs.length-(i+1)/\i+1<=xs.length/\Pv (i+1) (ys++[y]) (upd H4 acc (.lst (ys++[y])))):=
   funext fun y=>funext fun H4=>propext ⟨fun⟨z1,z2,z3⟩=>⟨z1,z2,xs.length-(i+1),∅,rfl,hlt,z3⟩,fun⟨z1,z2,_,_,_,_,z3⟩=>⟨z1,z2,z3⟩⟩
  rw[e] at tt;exact tt
 ·have e:i=xs.length:=by omega
  subst e;exact .inl ⟨⟨xs,ht,bc _⟩,pf _ _ hP⟩
section
variable{prog:AC}{w:World}{A:Around}{E:AA->AB->Prop}{s:AB}
end
section
variable{X:Cx}{ae:List (Addr×Obj)}{σ:St}{H1:Hp}{s1 s':AB}
end
def vD(nt:Nat)(js:List Nat)(wi:TI)(g:TG)(tk tv:TE):TE:=fun σ H Q=>wi σ H fun J H1=>∀acc,H1 acc=none->∃W:Nat->Nat->List (Key×V)->Hp->Prop,(∃m,W 0 m [] (upd H1 acc (.dK [])))/\∀i m kvs H2,W i m kvs H2 ->
 (J.stop i H2/\Q (.ref acc) H2)\/(J.go i H2/\∀x H3,J.Dm i H2 x H3->g x (List.replicate nt none++bW js σ) H3 fun σ' H'=>(σ'.drop nt=bW js σ/\σ'.length=(List.replicate nt (none:Option V)++bW js σ).length)/\tk σ' H' fun y H4=>tv σ' H4 fun v H5=>
  ∃k,y=kV k/\H5 acc=some (.dK kvs)/\kvs.length<sizeLine/\∃m',m'<m/\W (i+1) m' (putK kvs k v) (upd H5 acc (.dK (putK kvs k v))))
theorem yx{prog:AC}{w:World}{A:Around}{R:Result->AB->Prop}{s:AB}{kx vx target iter:Expr}{sc:Scope}{pos:Pos}{it:AA}{D:Addr}{env:Env}(Iv:Nat->AB->Prop)
  (turn:∀n s,Iv n s->wpAny (model prog w) A (pyNext it) (fun r s1=>match r with
   | none=>R (.ok .next) s1
   | some v=>wpAny (model prog w) A (letOwnedTupleGo target it v) (fun _ s2=>wpAny (model prog w) A (assign target env v) (fun _ s3=>
     wpAny (model prog w) A (eval kx env) (fun kv s4=>wpAny (model prog w) A (eval vx env) (fun vv s5=>
     wpAny (model prog w) A (dictSet D kv vv) (fun _ s6=>∃m,m<n/\Iv m s6) (fun _ _=>False) s5) (fun _ _=>False) s4) (fun _ _=>False) s3) (fun _ _=>False) s2) (fun _ _=>False) s1) (fun _ _=>False) s)
  (n:Nat) (h:Iv n s):codeAny (model prog w) A (.compLoop (.DictComp kx vx [⟨target,iter,[],0⟩] sc pos) 0 it (.ref D) env) R s:=by
 refine codeAny_loop rfl Iv (fun n s hI=>?_) n h;show wpAny _ _ ((compTurn (.DictComp kx vx [⟨target,iter,[],0⟩] sc pos) 0 it (.ref D) env).onRaise (fun x=>do noteFrame x env; theTreesLotGoes x)) _ _ s
 refine wpAny_noted ?_;rw[compTurn_dict];refine aL (Be (aL (jj (turn n s hI) (fun r s1 q1=>?_) fun _ _ f=>f.elim)));cases r with
 | none=>exact bL q1
 | some v=>
  refine aL (jj q1 (fun _ s2 q2=>?_) fun _ _ f=>f.elim);refine aL (jj q2 (fun _ s3 q3=>aL (wpAny_tests_nil ?_)) fun _ _ f=>f.elim);exact aL (aL (jj q3 (fun kv s4 q4=>aL (kY (jj q4 (fun vv s5 q5=>aL (Be (kY (jj q5 (fun _ s6 q6=>bL ⟨rfl,q6⟩) fun _ _ f=>f.elim)))) fun _ _ f=>f.elim))) fun _ _ f=>f.elim))
theorem xF{X:Cx}{kx vx iter:Expr}{tg:Expr}{g:TG}{nt:Nat}{pos:Pos}{sc:Scope}{wi:TI}{tk tv:TE}{N':List Str}{js:List Nat}{use:Option (AA->Sem Unit)}{Qc:AA->AB->Prop}{ae:List (Addr×Obj)}{s:AB}{σ:St}{H:Hp}{Q:VK}{kp:Pos}(hc:X.calm=true)(hi:PI X tg iter wi)(S:qC X nt N' js sc)
  (hgt:∀fp s H,PG (oM X N' sc fp s H) tg g) (hk:∀fp s H,PE (oM X N' sc fp s H) kx tk) (hv:∀fp s H,PE (oM X N' sc fp s H) vx tv) (hs:∀x,foldedSetIterable iter X.env x=pure x) (I:Inv X ae σ H s) (h:vD nt js wi g tk tv σ H Q)
  (fin:∀(acc C:Addr)(H':Hp)(s':AB),Inv X ae σ H' s'->eE X ae H' C->(∃m,s'.heap.Ns C m)->Q (.ref acc) H'->compPost (model X.prog X.w) X.A X.xe use Qc (.ref acc) C (.ok .next) s') :
  wpAny (model X.prog X.w) X.A (comprehension (.DictComp kx vx [⟨tg,iter,[],0⟩] sc pos) sc X.env kp newDict false (eval iter X.env) use) Qc X.xe s:=by
 refine wpAny_comprehension_free (use:=use) rfl hs S.clos S.kind S.names ?_;refine cA (hi ae s σ H _ I h) fun v s1 q1=>cA q1 fun itv s2 q2=>?_;obtain⟨it,fp,tn,J,H2,e,I2,T,st2,f2,q3⟩:=q2;subst e;refine qP ?_;obtain⟨W,⟨m0,w0⟩,turn⟩:=q3 s2.heap.objs.size I2.fresh;have I3:=I2.laid (a:=s2.heap.objs.size) (o:=.dK []) (t':=s2.toks) (fun _ _ q=>cU _ q) (bc _) (xu s2.heap I2.big)
 have lt2:∀b∈fp,b<s2.heap.objs.size:=fun b hb=>by
  obtain⟨o,ho,_⟩:=T.obj 0 _ st2 b hb;exact bI ho
 generalize e3:({ s2 with heap:=s2.heap.push { cls:=.type "dict",data:=.dict #[] },toks:=s2.toks }:AB)=s3 at I3
 have e3':({ s2 with heap:=s2.heap.push { cls:=.type "dict",dict:=none,data:=.dict #[] } }:AB)=s3:=e3
 have sz3:s3.heap.objs.size=s2.heap.objs.size+1:=by rw[<- e3]; exact gf ..
 have st3:tn 0 s3.heap:=T.keep 0 _ _ st2 fun b hb o ho=>by rw[<- e3]; exact cU _ ho
 have lt3:∀b∈fp,b<s3.heap.objs.size:=fun b hb=>by rw[sz3]; exact Bh (lt2 b hb)
 have f3:∀b∈fp,eE X ae (upd H2 s2.heap.objs.size (.dK [])) b:=fun b hb=>⟨by rw[aC (cZ (lt2 b hb))]; exact(f2 b hb).1,(f2 b hb).2⟩
 generalize hH3:upd H2 s2.heap.objs.size (.dK [])=H3 at I3 f3 w0;refine pG ?_;generalize X7:pushCells (s3.heap.push { cls:=.type "dict",data:=.dict #[] }) sc.names=h1;have hkp:∀b o,s3.heap.get? b=some o->h1.get? b=some o:=fun b o q=>by rw[<- X7]; exact pushCells_keeps _ _ b o (cU _ q)
 have hns':h1.Ns s3.heap.objs.size fun _=>none:=by rw[<- X7]; exact(Heap.Ns.new s3.heap (.type "dict")).keeps (pushCells_keeps _ _)
 have I4:Inv (oM X N' sc fp s3 H3) [] (List.replicate nt none++bW js σ) H3 { s3 with heap:=h1,toks:=s3.toks }:=zY I3 f3 lt3 S (fun {x c} e=>by
  have:=rD sc.names (s3.heap.push { cls:=.type "dict",data:=.dict #[] }) (qm sc X.env) x c (by rw[gf]; exact e)
  rw[X7,gf] at this
  exact this) hns' hkp
 have Z2:tn 0 h1:=T.keep 0 _ _ st3 fun b hb o ho=>hkp b o ho;have stat:∀{H':Hp},(∀b∈fp,H' b=none)->∀b∈fp,eE (oM X N' sc fp s3 H3) [] H' b:=fun hn b hb=>⟨hn b hb,cZ (lt3 b hb),I4.ok.HD b hb,.inl hb,(I4.ok.exf b hb).2,fun p hp=>absurd (show p∈([]:List (Addr×Obj)) from hp) (by simp)⟩
 have out:∀{σ':St}{H':Hp}{s':AB},Inv (oM X N' sc fp s3 H3) [] σ' H' s'->Q (.ref s2.heap.objs.size) H'->compPost (model X.prog X.w) X.A X.xe use Qc (.ref s2.heap.objs.size) s3.heap.objs.size (.ok .next) s':=by
  intro σ' H' s' I' q';obtain⟨m,hn,_⟩:=id I'.loc;have I5:Inv X ae σ H' s':=I3.call' I'.os I'.base I'.hok I'.bare fun b hb=>⟨(f3 b hb).2.2.2.1,(f3 b hb).2.1,(f3 b hb).2.2.2.2.1,(f3 b hb).2.2.2.2.2⟩;exact fin _ _ H' s' I5 (I3.nR (bc _) I'.free) ⟨m,hn⟩ q'
 have loop:∀s4:AB,s4={ s3 with heap:=h1,toks:=s3.toks }->codeAny (model X.prog X.w) X.A (.compLoop (.DictComp kx vx [⟨tg,iter,[],0⟩] sc pos) 0 (.ref it) (.ref s2.heap.objs.size) (compEnvC sc (cellsFrom (s3.heap.objs.size+1) sc.names (qm sc X.env)) s3.heap.objs.size X.env))
   (compPost (model X.prog X.w) X.A X.xe use Qc (.ref s2.heap.objs.size) s3.heap.objs.size) s4:=by
  rintro s4 rfl;refine yx (fun n s'=>∃i ys H',Inv (oM X N' sc fp s3 H3) [] (List.replicate nt none++bW js σ) H' s'/\tn i s'.heap/\(∀b∈fp,H' b=none)/\W i n ys H') ?_ m0 ⟨0,[],H3,I4,Z2,fun b hb=>(f3 b hb).1,w0⟩;rintro n s5 ⟨i,ys,H5,I5,R7,Rv,w5⟩;rcases turn i n ys H5 w5 with⟨stop,qn⟩ | ⟨go,step⟩
  ·refine cA (T.done (oM X N' sc fp s3 H3) rfl rfl rfl hc i [] s5 _ H5 (fun _ _=>False) I5 (stat Rv) R7 stop) fun r s6 qx=>?_;obtain⟨hr,I6⟩:=qx;subst hr;exact out I6 qn
  ·refine cA (T.item (oM X N' sc fp s3 H3) rfl rfl rfl hc i [] s5 _ H5 (fun _ _=>False) I5 (stat Rv) R7 go) fun r s6 qx=>?_;obtain⟨u,hr,q6⟩:=qx;subst hr;refine cA q6 fun _ s7 qx=>?_;obtain⟨y,H7,I7,r7,y7,R6,V0⟩:=qx;have I7':=I7.pinned (stat V0) (T.obj _ _ R6);refine cA (hgt fp s3 H3 _ s7 _ H7 y u _ I7' r7 (step y _ y7)) fun _ s8 qx=>?_;obtain⟨σ8,H8,I8,hsh,q8⟩:=qx
   have wk:∀k v,(List.replicate nt none++bW js σ)[k]?=some (some v)->σ8[k]?=some (some v):=fun k v e=>by
    by_cases hlt:k<nt
    ·rw[yd (by rw[pX]; exact hlt),Jv,aV hlt] at e
     cases e
    ·rw[uy (by rw[pX]; omega),pX,<- hsh.1,zM] at e
     rw[show nt+(k-nt)=k by omega] at e
     exact e
   refine cA (hk fp s3 H3 _ s8 _ _ _ I8 q8) fun zk s9 qx=>?_;obtain⟨yk,H9,I9,rk,q9⟩:=qx;refine cA (hv fp s3 H3 _ s9 _ _ _ I9 q9) fun zv Gj qx=>?_;obtain⟨yv,Rr,Zh,rv,k,ek,ha,hz,m',hm,w10⟩:=qx;subst ek;obtain⟨z,hd,vs,rel,dd⟩:=rB Zh.hok ha;have hz':vs.length<=sizeLine:=by rw[<- rel.length]; exact z
   have hl:(putK ys k yv).length<=sizeLine:=by have:=fY ys k yv; omega
   refine wpAny_dictSet_pairs (hsz:=hz') (wZ rk) dd fun h' UG hs'=>?_;have he:∃q,h'.get? s2.heap.objs.size=some q:=let ⟨q,_,_,hq,_⟩:=UG; ⟨q,hq⟩;have I11:=oK (t':=Gj.toks+1) Zh (by rw[ha]; exact True.intro) hs' he (Cu hl hd (rel.put k rv) UG)
   refine⟨m',hm,i+1,putK ys k yv,_,(I11.il).weak hsh.2.symm wk,T.keep _ _ _ R6 fun b hb o e=>(I11.pin (b,o) (iM _ (iM _ (dg hb e)))).1,fun b hb=>?_,w10⟩;obtain⟨o,e,d⟩:=T.obj _ _ R6 b hb;exact(I11.pin (b,o) (iM _ (iM _ (dg hb e)))).2.1
 exact codeAny_compStart_dict (loop _ rfl) (T.self X.A 0 _ _ _ Z2 (loop _ rfl))
theorem Pu{X:Cx}{kx vx iter:Expr}{tg:Expr}{g:TG}{nt:Nat}{y:Str}{py pos spos:Pos}{sc:Scope}{wi:TI}{tk tv:TE}{N':List Str}{js:List Nat}{i:Nat}(hN:X.N.Nodup)(hi':X.N[i]?=some y)(hy:Loc X.env.scope y)(hc:X.calm=true)(hi:PI X tg iter wi)(S:qC X nt N' js sc)
  (hgt:∀fp s H,PG (oM X N' sc fp s H) tg g) (hk:∀fp s H,PE (oM X N' sc fp s H) kx tk) (hv:∀fp s H,PE (oM X N' sc fp s H) vx tv) (hs:‹∀x,foldedSetIterable iter X.env x=pure x›) (hw: ~~~(swapsWith (.DictComp kx vx [⟨tg,iter,[],0⟩] sc pos) (some (.Name y py)) spos.line X.env=pure true))
  (hf: autoParam (X.fn y=true\/X.env.scope.names.lookup y=some .local) zd._auto_1) :
  PS X (.Assign [.Name y py] (.DictComp kx vx [⟨tg,iter,[],0⟩] sc pos) spos) (Aq (vD nt js wi g tk tv) (fj i)):=by
 symm;intro D I h;rw[exec_Assign_Name_used _ _ _ _ hw];refine aL (Be (aL ?_));refine aL (xF hc hi S hgt hk hv hs I h fun acc C H' s' I5 fc ⟨m,hn⟩ q=>?_)
 have ho:∀b∈[C],∃o,s'.heap.get? b=some o/\∀v,o.data≠.cell v:=fun b hb=>by
  rw[dM.mp hb];obtain⟨o,es,n,e,ed,_⟩:=hn;exact⟨o,e,fun v z=>by rw[ed] at z; cases z⟩
 have I6:=I5.pinned (fp:=[C]) (fun b hb=>by rw[dM.mp hb]; exact fc) ho
 have hg:PG X (.Name y py) (fj i):=aF hN hi' hy hf;show wpAny _ _ (assign (.Name y py) X.env (.ref acc)) (fun _ s''=>∃m,s''.heap.Ns C m/\∀h',Heap.SameBut C s''.heap h'->_) _ s';refine cA (hg _ s' _ H' (.ref acc) (.ref acc) _ I6 rfl q) fun _ s7 qx=>?_;obtain⟨σ7,H7,I7,q7⟩:=qx
 have pc:∀o,s'.heap.get? C=some o->s7.heap.get? C=some o/\H7 C=none:=fun o e=>by
  have:=I7.pin (C,o) (iM _ (iM _ (dg (by simp) e)))
  exact⟨this.1,this.2.1⟩
 refine⟨m,hn.at fun o e=>(pc o e).1,fun h' sb=>bL (bL ⟨σ7,H7,?_,q7⟩)⟩
 have fr:H7 C=none:=by
  obtain⟨o,es,n,e,ed,_⟩:=hn;exact(pc o e).2
 exact I7.il.turned (it:=C) (t':=s7.toks) (fun b o hb e=>sb.extBut b o hb e) fr fc.2.1 fc.2.2.2.1 fc.2.2.2.2.1 fc.2.2.2.2.2
theorem wF{X:Cx}{kx vx iter tg:Expr}{g:TG}{nt:Nat}{pos:Pos}{sc:Scope}{wi:TI}{tk tv:TE}{N':List Str}{js:List Nat}(hc:X.calm=true)(hi:PI X tg iter wi)(S:qC X nt N' js sc)
  (hgt:∀fp s H,PG (oM X N' sc fp s H) tg g) (hk:∀fp s H,PE (oM X N' sc fp s H) kx tk) (hv:∀fp s H,PE (oM X N' sc fp s H) vx tv) (hs:‹∀x,foldedSetIterable iter X.env x=pure x›):PE X (.DictComp kx vx [⟨tg,iter,[],0⟩] sc pos) (vD nt js wi g tk tv):=by
 symm;intro Q I h;rw[arm_eval_DictComp];refine xF (use:=none) hc hi S hgt hk hv hs I h fun acc C H' s' I5 fc ⟨m,hn⟩ q=>?_;refine⟨m,hn,fun h' sb=>?_⟩;exact⟨.ref acc,H',I5.turned (it:=C) (t':=s'.toks) (fun b o hb q=>sb.extBut b o hb q) fc.1 fc.2.1 fc.2.2.2.1 fc.2.2.2.2.1 fc.2.2.2.2.2,rfl,q⟩
theorem Inv.freeze{X:Cx}{ae:List (Addr×Obj)}{σ:St}{H:Hp}{s:AB}{d:Addr}{kvs:List (Key×V)}(I:Inv X ae σ H s)(hd:H d=some (.dK kvs)) :
  ∃o es ep,s.heap.get? d=some o/\o.data=.dict es ep/\Inv X ae σ (upd H d (.kE o (.dK kvs))) s:=by
 obtain⟨z,y,vs,r,o,es,ep,e,c,hdt,rest⟩:=id (I.hok d _ hd);refine⟨o,es,ep,e,hdt,?_⟩;have:=oK (t':=s.toks) (h':=s.heap) (ob:=.kE o (.dK kvs)) I (by rw[hd]; exact True.intro) (Heap.SameBut.refl _ _) ⟨o,e⟩ ⟨e,z,y,vs,r,o,es,ep,e,c,hdt,rest⟩
 exact this
theorem Inv.ZG{X:Cx}{ae:List (Addr×Obj)}{σ σ':St}{H H':Hp}{s s':AB}{d:Addr}{kvs:List (Key×V)}{o:Obj}(I:Inv X ae σ H s)(hd:H d=some (.dK kvs))(J:Inv X ae σ' H' s')(hf:H' d=some (.kE o (.dK kvs))) :
  Inv X ae σ' (upd H' d (.dK kvs)) s':=by
 have ne:∀b,H' b=none->b≠d:=fun b n z=>by rw[z,hf] at n; cases n
 refine⟨J.ok,J.os,J.bare,⟨J.base.keep,J.base.slot,fun b q e n x=>?_,J.base.there,fun b xs e=>?_,fun b q u e=>?_,fun b ps e=>?_⟩,J.loc,J.cell,?_,fun x c e=>?_,fun p hp=>?_,fun b u e=>?_,J.len⟩
 ·rw[aC (ne b (J.base.free b q e n x))];exact J.base.free b q e n x
 ·have:=J.base.tups b xs e;rw[aC (fun z=>by rw[z,hf] at this; cases this)]
  exact this
 ·have h1:=I.base.uM b q u e;rw[aC (fun z=>by rw[z,hd] at h1; cases h1)]
  exact J.base.uM b q u e
 ·obtain⟨m,h1⟩:=J.base.xV b ps e;refine⟨m,?_⟩;rw[aC (fun z=>by rw[z,hf] at h1; cases h1)]
  exact h1
 ·rw[aC (ne _ J.free)]; exact J.free
 ·rw[aC (ne _ (J.jA x c e))]; exact J.jA x c e
 ·obtain⟨h1,h2,h3⟩:=J.pin p hp;exact⟨h1,by rw[aC (ne _ h2)]; exact h2,h3⟩
 ·have own:∀c,H' c=some (.own b)->upd H' d (.dK kvs) c=some (.own b):=fun c q=>by rw[aC (fun z=>by rw[z,hf] at q; cases q)]; exact q
  have tup:∀c xs,H' c=some (.tup xs)->upd H' d (.dK kvs) c=some (.tup xs):=fun c xs q=>by rw[aC (fun z=>by rw[z,hf] at q; cases q)]; exact q
  by_cases z:b=d
  ·rw[z,aB] at e;cases e;rw[z];exact(show bM _ _ _ _ _ _ from(show bM X.prog X.w H' s'.heap d (.kE o (.dK kvs)) from J.hok d _ hf).2).stay (fun _ _ _ q=>q) (fun c q=>by rw[aC (fun z=>by rw[z,hf] at q; cases q)]; exact q) tup
  ·rw[aC z] at e;exact(J.hok b u e).stay (fun _ _ _ q=>q) own tup
def Oe(t:TE):TE:=fun σ H Q=>t σ H fun v H'=>∃d kvs o,H d=some (.dK kvs)/\H' d=some (.kE o (.dK kvs))/\Q v (upd H' d (.dK kvs))
theorem JG{X:Cx}{e:Expr}{t:TE}(h:PE X e t):PE X e (Oe t):=by
 symm;intro Q I hq;refine cA (h ae s σ H _ I hq) fun u s1 qx=>?_;obtain⟨v,H1,I1,r,d,kvs,o,h1,h2,q⟩:=qx;exact⟨v,_,I.ZG h1 I1 h2,r,q⟩
def ItV(d:Addr)(o:Obj)(kvs:List (Key×V)):It:=
 ⟨fun i H=>H d=some (.kE o (.dK kvs))/\i<kvs.length,fun i H x H'=>H'=H/\∃k,kvs[i]?=some (k,x),fun i H=>H d=some (.kE o (.dK kvs))/\kvs.length<=i⟩
theorem lV{X:Cx}{ae:List (Addr×Obj)}{σ:St}{H:Hp}{s:AB}{d:Addr}{kvs:List (Key×V)}{o:Obj}{es:Array DictEntry}{ep:Nat}(I:Inv X ae σ H s)(hd:H d=some (.kE o (.dK kvs)))(ho:o.data=.dict es ep) :
  ∃vs,KV kvs vs/\s.heap.DictAt (cB X.prog X.w) d vs ep:=by
 obtain⟨e,z,y,vs,r,o',es',ep',e',c,hdt,rest⟩:=(show bM X.prog X.w H s.heap d (.kE o (.dK kvs)) from I.hok d _ hd);rw[e] at e';cases e';rw[ho] at hdt;cases hdt;exact⟨vs,r,o,es,e,c,ho,rest⟩
theorem Ho{kvs:List (Key×V)}{vs:List (Key×AA)}(r:KV kvs vs):∀{i:Nat}{k:Key}{x:V},kvs[i]?=some (k,x)->∃u,vs[i]?=some (k,u)/\RelV x u:=by
 induction r with
 | nil=>intro i k x h; cases h
 | @cons a b l1 l2 h1 h2 ih=>
  intro i k x h;cases i with
  | zero=>
   cases h;obtain⟨e1,e2⟩:=h1;exact⟨b.2,by rw[List.getElem?_cons_zero]; congr 1; exact Prod.ext e1.symm rfl,e2⟩
  | succ i=>exact ih h
theorem KD{P:AC}{w:World}{K:Frag}{tg:Expr}{d it:Addr}{o:Obj}{kvs:List (Key×V)}{es:Array DictEntry}{ep:Nat}(ho:o.data=.dict es ep):Turn P w K tg (ItV d o kvs) [it] it (fun i h=>h.IsValIter it d i kvs.length ep) where
 mem:=by simp
 obj:=fun i h st b hb=>by
  have e:b=it:=by simpa using hb
  subst e;obtain⟨o,e,c,d⟩:=st;exact⟨o,e,fun v z=>by rw[d] at z; cases z⟩
 keep:=fun i h h' st k=>st.at fun o e=>k it (by simp) o e
 item:=by
  intro X hP hw hK hc i ae s σ H E I hf st hg;subst hP hw hK;obtain⟨hd,hi⟩:=hg;obtain⟨vs,r,da⟩:=lV I hd ho;obtain⟨u,hu,ru⟩:=Ho r (i:=i) (k:=(kvs[i]).1) (x:=(kvs[i]).2) (cN hi);obtain⟨f0,f1,f2,f3,f4,f5⟩:=hf it (by simp)
  have st2:s.heap.IsValIter it d i vs.length ep:=by rw[<- r.length]; exact st
  refine wpAny_pyNext_values_item st2 da hu fun h' st' sb=>?_;have I1:Inv X ae σ H { s with heap:=h' }:=I.turned (t':=s.toks) (fun b o hb e=>(sb.2 b hb).trans e) f0 f1 f3 f4 f5
  obtain⟨o2,e2,c2,d2⟩:=id st';refine⟨u,rfl,xm (s:={ s with heap:=h' }) e2 c2 d2 ⋯ ⟨(kvs[i]).2,H,I1,ru,⟨rfl,(kvs[i]).1,cN hi⟩,?_,fun b hb=>(hf b hb).1⟩⟩
  rw[r.length]; exact st'
 done:=by
  intro X hP hw hK hc i ae s σ H E I hf st hg;subst hP hw hK;obtain⟨hd,hi⟩:=hg;obtain⟨vs,r,da⟩:=lV I hd ho;obtain⟨f0,f1,f2,f3,f4,f5⟩:=hf it (by simp)
  have st2:s.heap.IsValIter it d i vs.length ep:=by rw[<- r.length]; exact st
  exact wpAny_pyNext_values_end (I.ok.hd hc) st2 da (Pk.mpr (by rw[<- r.length]; exact hi)) fun h' eb=>⟨rfl,I.turned (t':=s.toks) (fun b o hb e=>eb b o hb e) f0 f1 f3 f4 f5⟩
 self:=fun _ _ _ _ _ st h=>wpAny_pyIter_valiter st h
def VN(K:Frag)(to:TE):TI:=fun σ H R=>to σ H fun x H1=>∃d kvs,x=.ref d/\H1 d=some (.dK kvs)/\∀o,R (ItV d o kvs) (upd H1 d (.kE o (.dK kvs)))
theorem Tg{X:Cx}{K:Frag}{tg o:Expr}{to:TE}{apos cpos:Pos}(hK:X.K=K)(ho:PE X o to)(hbase: ~~~(attributeBase o "values" X.env (eval o X.env)=eval o X.env))(hline: ~~~((apos.endLine==cpos.line)=true)) :
  PI X tg (.Call (.Attribute o "values" apos) [] [] cpos) (VN K to):=by
 symm;intro R I h;refine wpAny_Call_method0_late hbase hline (cA (ho ae s σ H _ I h) fun v s1 qx=>?_);obtain⟨x,H1,I1,r1,d,kvs,ex,hd,q⟩:=qx;subst ex;cases r1;obtain⟨hz,hsm,vs,rel,dd⟩:=rB I1.hok hd;have tyd:tyV X.K "dict" (.ref d) H1:=.inr (.inr (.inl ⟨rfl,.inl ⟨kvs,hd⟩⟩));obtain⟨h1,h2⟩:=N7 I1 (x:=.ref d) (v:=.ref d) rfl tyd;refine⟨"dict","dict.values",PySem.F.plainAttrs_dict,PySem.F.slot_dict_values,PySem.F.type_dict_values,h1,h2,Calls.callWith_builtin rfl (PySem.evalArgs_none ?_)⟩;refine call_meetsIn PySem.F.slot_dict_values dd.typeIs PySem.F.entry_dict_values (PySem.F.args_dict_values_1 _) (meets_dict_values (cB X.prog X.w) d hsm) ⟨⟨vs,dd⟩,?_⟩;have I2:Inv X ae σ H1 { s1 with heap:=s1.heap.push { cls:=.type "dict_values",data:=.fields #[.ref d] } }:=I1.kept (t':=s1.toks) fun b u e=>cU _ e
 obtain⟨ob,es,ep,he,hdt,I3⟩:=I2.freeze hd;obtain⟨vs',r',da⟩:=lV I3 aB hdt;refine wpAny_pyIter_values (v:=s1.heap.objs.size) ⟨_,cI _ rfl,rfl,rfl⟩ da ?_;have hz2:(s1.heap.push { cls:=.type "dict_values",data:=.fields #[.ref d] }).objs.size=s1.heap.objs.size+1:=gf ..;refine⟨_,[_],_,_,_,rfl,I3.kept (t':=s1.toks) fun b u e=>cU _ e,KD hdt,?_,fun b hb=>?_,q ob⟩
 ·exact⟨_,cI _ rfl,rfl,by rw[r'.length]; rfl⟩
 ·have e:=dM.mp hb;subst e;exact I3.nR (bc _) (I3.hok.fresh (bc _))
def qu(l:List Str)(x:Str):List Str:=if l.any (· == x) then l else l++[x]
def lU(val:Nat->Str)(i:Nat):List Str:=((List.range i).map val).foldl qu []
theorem sX(val:Nat->Str)(i:Nat):lU val (i+1)=qu (lU val i) (val i):=by
 unfold lU; rw[List.range_succ,gk,List.foldl_append]; rfl
theorem JR(val:Nat->Str):∀i,(lU val i).length<=i
 | 0=>bc _
 | i+1=>by
  rw[sX]; unfold qu;have ih:=JR val i;split
  ·omega
  ·rw[cF,List.length_singleton]; omega
theorem Rk(l:List Str)(v k:Str):(qu l v).any (· == k)=(l.any (· == k) || decide (k=v)):=by
 unfold qu;by_cases h:l.any (· == v)=true
 ·rw[aV h];by_cases e:k=v
  ·subst e; rw[h]; simp
  ·simp[e]
 ·rw[aN h,List.any_append];by_cases e:k=v
  ·subst e; simp
  ·have hb:(v==k)=false:=by simpa[beq_iff_eq] using(fun h':v=k=>e h'.symm)
   simp[hb,e]
theorem Gd(l:List Str)(v:Str):(qu l v).length=if l.any (· == v) then l.length else l.length+1:=by
 unfold qu; split <;> simp
section
variable{prog:AC}{w:World}{A:Around}{R:Result->AB->Prop}{I:Addr}{fp wr:List Addr}{G:Array GenState->Array GenState->Prop}{n:Nat}{P:Nat->AA->Prop}{St:Nat->AB->Prop}
theorem KY(W:WalksS prog w A.in1 I fp wr G n P St)(S:Addr)(hSf:S∉fp)
  (val:Nat->Str) (hval:∀i v,P i v->∃t,v=.str (val i) t) (hb:n+1<scanBound) :
  ∀(k i:Nat)(s:AB),n-i=k->i<=n->St i s ->
   s.heap.SetOf (strKind prog w) S (fun k'=>(lU val i).any (· == k')) (lU val i).length ->
   (∀s',Moved (S::wr) G s s'->s'.heap.SetOf (strKind prog w) S (fun k'=>(lU val n).any (· == k')) (lU val n).length->R (.ok (.ret .none)) s') ->
   codeAny (model prog w) A (.builtin "set.update.loop" ⟨[.ref S,.ref I],[]⟩) R s:=by
 have hSw:S∉wr:=fun h=>hSf (W.sub _ h);have hsub:∀b∈wr,b∈S::wr:=fun b hb=>dX _ hb;intro k
 induction k with
 | zero=>
  intro i s hk hi hst hS hR;have hin:i=n:=by omega
  subst hin;refine codeAny_builtin PyProof.Rows.F.entry_set_update_loop ?_;rw[Around.under_plainId PyProof.Rows.F.plain_set_update_loop _];show wpAny _ A.in1 (pyNext (.ref I) >>= _) _ _ s;refine aL (W.done s _ _ hst fun s' hm=>?_);show wpAny _ A.in1 (ret Value.none) _ _ s';refine bL (hR s' (hm.mono hsub) ?_);obtain⟨o,es,ep,t,ho,rest⟩:=hS;exact⟨o,es,ep,t,hm.heap S _ hSw ho,rest⟩
 | succ k ih=>
  intro i s hk hi hst hS hR;have hlt:i<n:=by omega
  refine codeAny_builtin PyProof.Rows.F.entry_set_update_loop ?_;rw[Around.under_plainId PyProof.Rows.F.plain_set_update_loop _];show wpAny _ A.in1 (pyNext (.ref I) >>= _) _ _ s;refine aL (W.item i s _ _ hlt hst fun v s' hP hst' hm=>?_);obtain⟨t,rfl⟩:=hval i v hP
  have hS':s'.heap.SetOf (strKind prog w) S (fun k'=>(lU val i).any (· == k')) (lU val i).length:=by
   obtain⟨o,es,ep,tb,ho,rest⟩:=hS;exact⟨o,es,ep,tb,hm.heap S _ hSw ho,rest⟩
  show wpAny _ A.in1 (holding [Value.str (val i) t] (setAdd S (.str (val i) t)) >>= _) _ _ s';refine aL (kY ?_);unfold setAdd;refine kY ?_;refine aL ((strKind prog w).pyHash (k:=val i) (strKind_is _ _ _ _) ?_);have hroom:(lU val i).length+1<scanBound:=by have:=JR val i; omega
  refine wpAny_setAddHashed_of (knd:=strKind prog w) (s:={ s' with toks:=s'.toks+1 }) (strKind_is _ _ _ _) rfl hS' hroom fun h' hsb hS2=>?_
  have hSi:h'.SetOf (strKind prog w) S (fun k'=>(lU val (i+1)).any (· == k')) (lU val (i+1)).length:=
   SetOf_congr hS2 (fun k'=>by rw[sX,Rk]) (by rw[sX,Gd])
  refine bL ⟨plainId_quiet PyProof.Rows.F.plain_set_update_loop _,ih (i+1) _ ∅ hlt (W.frame _ s' _ _ hst' (tX _) fun b hb o e=>?_) hSi fun s'' hm'' hS''=>?_⟩
  ·rw[hsb.2 b (fun h:b=S=>hSf (by rw[<- h]; exact hb))]; exact e
  ·refine hR s'' (Moved.trans W.gtrans ((hm.mono hsub).then_heap (tX _) fun b o hb e=>?_) hm'') hS'';rw[hsb.2 b (fun h:b=S=>hb (by rw[h]; exact eX))]; exact e
end
theorem Jb:∀{ss:List Str}{us:List AA}{i:Nat}{v:AA},Vals (ss.map V.str) us->us[i]?=some v->∃t,v=.str (ss.getD i Str.empty) t
 | [],us,i,v,h,e=>by
  cases h;cases e
 | x::ss,us,i,v,h,e=>by
  cases h with
  | cons h1 h2=>
   cases i with
   | zero=>
    cases e;obtain⟨t,rfl⟩:=h1;exact⟨t,rfl⟩
   | succ i=>exact Jb (ss:=ss) h2 e
section
variable{prog:AC}{w:World}{A:Around}{E:AA->AB->Prop}{s:AB}
theorem O4{l:Addr}{items:Array AA}{ss:List Str}{Q:AA->AB->Prop}
  (hh:A.handled=none) (hl:s.heap.IsList l items) (hi:Vals (ss.map V.str) items.toList) (hb:items.size+1<scanBound)
  (h:∀(h':Heap)(tk:Nat),h'.SetOf (strKind prog w) s.heap.objs.size (fun k'=>(lU (fun i=>ss.getD i Str.empty) items.size).any (· == k')) (lU (fun i=>ss.getD i Str.empty) items.size).length ->
   (∀b o,b<s.heap.objs.size->s.heap.get? b=some o->h'.get? b=some o)->Q (.ref s.heap.objs.size) { s with heap:=h',toks:=tk }) :
  wpAny (model prog w) A (call (.type "set") [.ref l]) Q E s:=by
 obtain⟨c,tl,hmro⟩:=PySem.F.called_set.mro;have hmade:=PySem.F.called_set.made;have hsub:=PySem.F.called_set.sub;refine wpAny_call (codeAny_of_tree ?_);show wpAny _ _ (callAny (.type "set") _) _ _ _;refine bL ⟨Code.quiet_builtin _ (by decide +kernel),codeAny_builtin PySem.F.entry_type_call ?_⟩
 rw[Around.under_plain (weight_type_call_type "set" [.ref l] []) rfl];have h1:=PySem.F.called_set.notType;have h2:=PySem.F.called_set.canCreate;have hct:=PySem.F.typeCall_set_1 (.ref l)
 repeat (any_goals (first | assumption | wp_step))
 refine codeAny_mono (code_set_new_1 (.ref l) (E:=E) (Q₁:=fun obj s₁=>∃led:Bool,obj=.ref s.heap.objs.size/\s₁={ s with heap:=s.heap.push { cls:=.type "set",dict:=none,data:=.set #[] 0 (.fresh 0 0 led) } }) fun led=>⟨led,rfl,rfl⟩) fun r s₁ hr=>?_
 cases r with
 | error e=>exact hr
 | ok fl=>
  cases fl with
  | ret obj=>
   obtain⟨led,rfl,rfl⟩:=hr;have hS:(s.heap.push { cls:=.type "set",dict:=none,data:=.set #[] 0 (.fresh 0 0 led) }).get? s.heap.objs.size=some { cls:=.type "set",dict:=none,data:=.set #[] 0 (.fresh 0 0 led) }:=cI _ rfl;have hT:Shared.TypeIs { s with heap:=s.heap.push { cls:=.type "set",dict:=none,data:=.set #[] 0 (.fresh 0 0 led) } } (.ref s.heap.objs.size) "set" := ⟨_,hS,rfl⟩
   have hli:=PySem.F.called_set.init.lookup;have hbi:=PySem.F.called_set.init.bind (.ref s.heap.objs.size)
   repeat (any_goals (first | assumption | wp_step))
   refine codeAny_mono (codeAny_call_builtin (R:=wants (fun r s₂=>r=.none/\∃h' tk,s₂={ s with heap:=h',toks:=tk } /\
     h'.SetOf (strKind prog w) s.heap.objs.size (fun k'=>(lU (fun i=>ss.getD i Str.empty) items.size).any (· == k')) (lU (fun i=>ss.getD i Str.empty) items.size).length /\
     (∀b o,b<s.heap.objs.size->s.heap.get? b=some o->h'.get? b=some o)) E) PySem.F.called_set.init.plain PySem.F.entry_set_init (check_set_init_1 hT ?_)) fun r₂ s₂ hr₂=>?_
   ·obtain⟨ol,hol,hcl,nl,hdl⟩:=hl;obtain⟨ocls,odict,odata,oslots⟩:=ol;simp only at hcl hdl;subst hcl; subst hdl;have hol':(s.heap.push { cls:=.type "set",dict:=none,data:=.set #[] 0 (.fresh 0 0 led) }).get? l=some { cls:=.type "list",dict:=odict,data:=.seq items nl,slots:=oslots }:=cU _ hol;have hsls:=PySem.F.sub_list_set;have hslf:=PySem.F.sub_list_frozenset;have hne:(Value.type "list" == Value.type "dict")=false:=by decide
    have hl1:(s.heap.push { cls:=.type "set",dict:=none,data:=.set #[] 0 (.fresh 0 0 led) }).IsList l items:=⟨_,hol',rfl,nl,rfl⟩;unfold Builtin.«set.__init__» noKeywords Builtin.Frozenset.updateFrom;generalize hPI:pyIter=PI
    wp_walk
    subst hPI;refine DY hl1 ?_;refine aL (wpAny_runValue ?_);have hlS:l<s.heap.objs.size:=bI hol;have hh3:A.in1.in1.in1.handled=none:=by simp[hh]
    have hneI:l≠(s.heap.push { cls:=.type "set",dict:=none,data:=.set #[] 0 (.fresh 0 0 led) }).objs.size:=by
     rw[gf]; exact cZ (Bh hlS)
    have hSf:s.heap.objs.size∉[(s.heap.push { cls:=.type "set",dict:=none,data:=.set #[] 0 (.fresh 0 0 led) }).objs.size,l]:=by
     rw[gf]; simp only[bK,dM,fD,or_false,not_or];exact⟨cZ (Bg _),xY hlS⟩
    have hval:∀(i:Nat)(v:AA),items[i]?=some v->∃t,v=.str ((fun i=>ss.getD i Str.empty) i) t:=fun i v hv=>Jb hi (by rw[Array.getElem?_toList]; exact hv)
    refine KY ((Walks.list hh3 _ l hneI items).toS) s.heap.objs.size
     hSf (fun i=>ss.getD i Str.empty) hval hb (items.size-0) 0 _ ∅ (eV _)
     ⟨⟨_,cI _ rfl,rfl,rfl⟩,(hl1.push _)⟩ ?hS0 ?hR
    case hS0=>
     have hget:((s.heap.push { cls:=.type "set",dict:=none,data:=.set #[] 0 (.fresh 0 0 led) }).push { cls:=.type "list_iterator",data:=.fields #[.ref l,.int 0 0] }).get? s.heap.objs.size
       = some { cls:=.type "set",dict:=none,data:=.set #[] 0 (.fresh 0 0 led) }:=cU _ hS
     exact PyProof.Rows.SetOf_congr ((PyProof.Rows.setObjOf_fresh (knd:=strKind prog w) led).setOf hget (by unfold scanBound; omega)) (fun _=>rfl) rfl
    case hR=>
     intro s' hm hS';obtain⟨h',g',d',tk',os'⟩:=s';have eg:g'=s.gens:=hm.gens;have ed:d'=s.drawn:=hm.drawn;have eo:os'=s.os:=hm.os;subst eg; subst ed; subst eo;show wpAny _ _ _ _ _ _;refine bL ?_;show wpAny _ _ (ret Value.none) _ _ _;refine bL ⟨rfl,h',tk',rfl,hS',fun b o hb e=>?_⟩;have hb1:b≠s.heap.objs.size:=cZ hb
     have hb2:b≠(s.heap.push { cls:=.type "set",dict:=none,data:=.set #[] 0 (.fresh 0 0 led) }).objs.size:=by
      rw[gf]; exact cZ (Bh hb)
     exact hm.heap b o (by simp only[bK,dM,fD,or_false,not_or]; exact⟨hb1,hb2⟩) (cU _ (cU _ e))
   ·cases r₂ with
    | error e=>exact hr₂
    | ok fl₂=>
     cases fl₂ with
     | ret r=>
      obtain⟨rfl,h',tk,rfl,hS',hk'⟩:=hr₂
      repeat (any_goals (first | assumption | wp_step))
      exact h _ _ hS' hk'
     | _=>exact hr₂.elim
  | _=>exact hr.elim
end
def Ym(a:Addr)(n:Nat):HO:=.ext fun h=>∃o es ep t,h.get? a=some o/\o.ExactSet/\o.data=.set es ep t/\t.fits es.size=true/\es.size=n
def qi(ss:List Str):Nat:=(lU (fun i=>ss.getD i Str.empty) ss.length).length
theorem Ac{X:Cx}(hc:X.calm=true):cJ X (.type "set") (fun vs H Q=>∃(l:Addr)(ss:List Str),vs=[.ref l]/\H l=some (.lst (ss.map V.str))/\ss.length<=1000/\∀p H',H p=none->aJ H H'->H' p=some (Ym p (qi ss))->Q (.ref p) H'):=by
 symm;intro vs us Q I r h;obtain⟨l,ss,rfl,hl,hz,q⟩:=h;obtain⟨u,rfl,ru⟩:=r.one;cases ru;obtain⟨_,its,n,rv,e⟩:=I.hok l _ hl;have hn:=rv.length;rw[bZ] at hn;refine O4 (ss:=ss) (items:=its.toArray) (I.ok.hd hc) ⟨_,e,rfl,_,rfl⟩ (by simpa using rv) (by rw[d_,<- hn]; unfold scanBound; omega) fun h' tk hS hk=>?_
 have hf:=I.hok.fresh (bc s.heap.objs.size);have hsz:its.toArray.size=ss.length:=by rw[d_,<- hn]
 rw[hsz] at hS;refine⟨.ref s.heap.objs.size,_,I.laid (a:=s.heap.objs.size) (o:=Ym s.heap.objs.size (qi ss)) (t':=tk) (fun b o q=>hk b o (bI q) q) (bc _) ?_,rfl,q _ _ hf (aM hf _) aB⟩;obtain⟨o,es,ep,t,h1,h2,h3,h4,h5,h6,h7,h8⟩:=hS;refine⟨⟨o,es,ep,t,h1,h2,h3,h7,h8⟩,⟨o,h1⟩,fun g1 g2 z k=>?_⟩;obtain⟨o',es',ep',t',a1,a2⟩:=z;exact⟨o',es',ep',t',k _ a1,a2⟩
theorem Ad{X:Cx}:cJ X (.builtin "len") (fun vs H Q=>∃(p:Addr)(n:Nat),vs=[.ref p]/\H p=some (Ym p n)/\n<=1000/\Q (.int n) H):=by
 symm;intro vs us Q I r h;obtain⟨p,n,rfl,hp,hn,q⟩:=h;obtain⟨u,rfl,ru⟩:=r.one;cases ru;obtain⟨o,es,ep,t,h1,h2,h3,h4,h5⟩:=(show ∃o es ep t,s.heap.get? p=some o/\o.ExactSet/\o.data=.set es ep t/\t.fits es.size=true/\es.size=n from(I.hok p _ hp).1);refine call_len_set h1 h2 h3 h4 (by rw[h5]; omega) ?_
 rw[h5];exact⟨.int n,H,I.tok _,⟨_,rfl⟩,q⟩
theorem z7:∀(l acc:List Str),(l.foldl qu acc).length<=acc.length+l.length/\((l.foldl qu acc).length=acc.length+l.length↔l.Nodup/\∀x∈l,x∉acc)
 | [],acc=>⟨bc _,⟨fun _=>⟨List.nodup_nil,fun x h=>by cases h⟩,fun _=>rfl⟩⟩
 | y::l,acc=>by
  obtain⟨h1,h2⟩:=z7 l (qu acc y);have e:((y::l).foldl qu acc)=l.foldl qu (qu acc y):=rfl;rw[e,fC];have hl:=Gd acc y;by_cases c:acc.any (· == y)=true
  ·rw[aV c] at hl
   have hy:y∈acc:=by
    obtain⟨z,hz,ez⟩:=List.any_eq_true.mp c;rw[<- beq_iff_eq.mp ez]; exact hz
   refine⟨∅,⟨fun z=>by omega,fun z=>absurd hy (z.2 y eX)⟩⟩
  ·rw[aN c] at hl;have hy:y∉acc:=fun h=>c (List.any_eq_true.mpr ⟨y,h,beq_self_eq_true y⟩);have ea:qu acc y=acc++[y]:=aN c;refine⟨∅,⟨fun z=>?_,fun z=>?_⟩⟩
   ·obtain⟨n1,n2⟩:=h2.mp ∅
    rw[ea] at n2;refine⟨jK.mpr ⟨fun hm=>n2 y hm (by simp),n1⟩,fun x hx=>?_⟩
    rcases bK.mp hx with w | w
    ·rw[w]; exact hy
    ·exact fun hm=>n2 x w (by simp[hm])
   ·obtain⟨n1,n2⟩:=z;obtain⟨m1,m2⟩:=jK.mp n1
    have:=h2.mpr ⟨m2,fun x hx=>by
     rw[ea];intro hm;rcases gm.mp hm with w | w
     ·exact n2 x (dX _ hx) w
     ·rw[dM.mp w] at hx; exact m1 hx⟩
    omega
theorem oJ(ss:List Str):qi ss<=ss.length/\(qi ss<ss.length↔¬ss.Nodup):=by
 have e:(List.range ss.length).map (fun i=>ss.getD i Str.empty)=ss:=by
  apply Jl
  ·simp
  ·intro i h1 h2;simp[iI,h2]
 have d:qi ss=(ss.foldl qu []).length:=by unfold qi lU; rw[e]
 obtain⟨h1,h2⟩:=z7 ss [];rw[<- d] at h1 h2;simp only[pW,Nat.zero_add] at h1 h2;refine⟨h1,⟨fun z n=>?_,fun z=>?_⟩⟩
 ·have:=h2.mpr ⟨n,fun x _=>by simp⟩; omega
 ·rcases Nat.lt_or_ge (qi ss) ss.length with w | w
  ·exact w
  ·exact absurd (h2.mp ∅).1 z
section
variable{prog:AC}{w:World}{A:Around}{E:AA->AB->Prop}{s:AB}
theorem Ud:typeLookup (.type "list") "keys" = pure none:=by rw[typeLookup_type,builtinLookup_eq_fast]; kernel_rfl
theorem L_{a:Addr}{xs:Array AA}{k:Nat}{sl:Array (Option AA)}{Q:Option AA->AB->Prop}(hx:s.heap.get? a=some { cls:=.type "list",dict:=none,data:=.seq xs k,slots:=sl })(hA:A.handled=none)
  (h:∀h' tk,(∀b o,s.heap.get? b=some o->h'.get? b=some o)->Q none { s with heap:=h',toks:=tk }):wpAny (model prog w) A (getAttr? (.ref a) "keys") Q E s:=by
 obtain⟨hp,g,d,tk,os⟩:=s;have hT:∀tk',(⟨hp,g,d,tk',os⟩:AB).TypeIs (.ref a) "list" := fun _=>⟨_,hx,rfl⟩;have f1:=sub_AttributeError;have f3:=F.slot_list_getattribute.lookup;have f4:=F.slot_list_getattribute.bind (.ref a);have f5:=am_list_getattr_none;unfold getAttr? getAttrBy? getAttrBy
 repeat (any_goals (first | assumption | exact hT _ | ((with_reducible show wpAny _ _ (call (Value.builtin "list.__getattribute__") _ _) _ _ _); refine call_meets F.slot_list_getattribute (hT _) am_entry_list_getattribute (F.args_list_getattribute_2 _ _) (meets_getattribute_miss_list a xs k sl "keys" _ Ud (by decide +kernel)) ⟨hx,hA,fun h' tk' e hx'=>?_⟩) | wp_step))
 obtain⟨t',u',he⟩:=hx'.there;show wpAny _ _ (getattributeRaised _ _ _ _ _ _ _) _ _ _;unfold getattributeRaised
 repeat (any_goals (first | assumption | wp_step))
 exact h _ _ fun b o e=>hx'.keeps b o e
end
structure acs(H:Hp)(xs:List V)(kvs:List (PyData×V)):Prop where
 n:xs.length=kvs.length
 p:∀(i:Nat)(x:V)(q:PyData×V),xs[i]?=some x->kvs[i]?=some q->∃t y,x=.ref t/\H t=some (.tup [y,q.2])/\abA H q.1 y
theorem fW:plainId "dict.update.loop" = true:=by decide +kernel
theorem ou:entryFor table "dict.update.loop" = some Builtin.«dict.update.loop»:=entryFor_of_tree (by kernel_rfl)
section
variable{X:Cx}{ae:List (Addr×Obj)}{σ:St}
end
section
variable{X:Cx}
end
def ZKL(K:Frag)(g:TG)(tb:TS)(D:Ends)(σ:St)(vs:List V)(H1:Hp):Prop:=∃a b,vs=[.ref a,.ref b]/\(∃xs,cz K H1 a xs)/\(∃ys,cz K H1 b ys)/\∃W:Nat->Nat->St->Hp->Prop,(∃m,W 0 m σ H1)/\∀i m σ H,W i m σ H ->
 ((Rp K a b).stop i H/\D.nx σ H)\/((Rp K a b).go i H/\∃N:St->Hp->Prop,(∀σ' H',N σ' H'->∃m',m'<m/\W (i+1) m' σ' H')/\∀x H',(Rp K a b).Dm i H x H'->g x σ H' fun σ2 H2=>tb { D with nx:=N,ct:=N,bk:=D.nx } σ2 H2)
theorem KQ{K:Frag}{ta:TA}{g:TG}{tb:TS}{D:Ends}{σ:St}{H:Hp}:Dv (J5 K ta) g tb D σ H=ta σ H (ZKL K g tb D σ):=rfl
theorem ZKL.of{K:Frag}{g:TG}{tb:TS}{D:Ends}{σ:St}{H:Hp}{a b:Addr}{xs ys:List V}(ha:H a=some (.lst xs))(hb:H b=some (.lst ys))(hn:xs.length=ys.length)(Pv:Nat->St->Hp->Prop)(h0:Pv 0 σ H)(hl:∀i σ H',i<=xs.length->Pv i σ H'->H' a=some (.lst xs)/\H' b=some (.lst ys))
  (hs:∀i x y σ H p,xs[i]?=some x->ys[i]?=some y->Pv i σ H->H p=none->g (.ref p) σ (upd H p (.tup [x,y])) fun σ2 H2=>tb { D with nx:=Pv (i+1),ct:=Pv (i+1),bk:=D.nx } σ2 H2) (hd:∀σ H,Pv xs.length σ H->D.nx σ H):ZKL K g tb D σ [.ref a,.ref b] H:=by
 refine⟨a,b,rfl,⟨xs,cz.of ha⟩,⟨ys,cz.of hb⟩,fun i m σ H=>m=xs.length-i/\i<=xs.length/\Pv i σ H,⟨_,rfl,eV _,h0⟩,?_⟩;rintro i m σ H ⟨rfl,hi,p⟩;have q:cz K H a xs:=cz.of (hl i σ H hi p).1;have q2:cz K H b ys:=cz.of (hl i σ H hi p).2;by_cases hlt:i<xs.length
 ·have hlt':i<ys.length:=by omega
  refine .inr ⟨⟨xs,ys,xs[i],ys[i],q,q2,cN hlt,cN hlt'⟩,Pv (i+1),fun σ' H' p'=>⟨xs.length-(i+1),∅,rfl,hlt,p'⟩,fun x H' y=>?_⟩
  obtain⟨t,z,z',ht,rfl,rfl,hz,hz'⟩:=y;exact hs i z z' σ H t (hz xs q) (hz' ys q2) p ht
 ·have e:i=xs.length:=by omega
  subst e;exact .inl ⟨⟨xs,ys,q,q2,.inl rfl⟩,hd σ H p⟩
theorem pC:typeLookup (.type "zip") "__getattr__" = pure none:=by rw[typeLookup_type,builtinLookup_eq_fast]; kernel_rfl
theorem jL:entryFor table "zip.__getattribute__" = some Builtin.«object.__getattribute__»:=
 entryFor_alias (id':="object.__getattribute__") (by kernel_rfl) (by decide +kernel) (by decide +kernel) (by kernel_rfl)
theorem Qn:typeLookup (.type "zip") "keys" = pure none:=by rw[typeLookup_type,builtinLookup_eq_fast]; kernel_rfl
theorem iU(a:Addr)(xs:Array AA)(sl:Array (Option AA))(name:Str)(u:Tok)(hmiss:typeLookup (.type "zip") name=pure none)(hname:(["__module__","__name__","__qualname__","__doc__","__annotations__"]:List Str).contains name=false)(hsz:name.length+100<=sizeLine:=by size_fits) :
  Meets (Builtin.«object.__getattribute__» ⟨[.ref a,.str name u],[]⟩) (fun A R s=>s.heap.get? a=some { cls:=.type "zip",dict:=none,data:=.fields xs,slots:=sl }/\raisesAttr (.ref a) name A R s):=
 Meets.of_wp fun prog w A R s hs=>by
  obtain⟨hp,g,d,tk,os⟩:=s;obtain⟨hx,hs⟩:=hs;have hT:(⟨hp,g,d,tk,os⟩:AB).TypeIs (.ref a) "zip" := ⟨_,hx,rfl⟩;unfold Builtin.«object.__getattribute__»
  repeat (any_goals (first | assumption | wp_step))
  simp only[hname,x_,if_false]
  repeat (any_goals (first | assumption | wp_step))
  exact wpAny_raiseAttrError hs.1 hs.2 (attrMsg_fits (by decide +kernel) hsz)
section
variable{prog:AC}{w:World}{A:Around}{E:AA->AB->Prop}{s:AB}
theorem Hq{a:Addr}{xs:Array AA}{sl:Array (Option AA)}{Q:Option AA->AB->Prop}(hx:s.heap.get? a=some { cls:=.type "zip",dict:=none,data:=.fields xs,slots:=sl })(hA:A.handled=none)
  (h:∀h' tk,(∀b o,s.heap.get? b=some o->h'.get? b=some o)->Q none { s with heap:=h',toks:=tk }):wpAny (model prog w) A (getAttr? (.ref a) "keys") Q E s:=by
 obtain⟨hp,g,d,tk,os⟩:=s;have hT:∀tk',(⟨hp,g,d,tk',os⟩:AB).TypeIs (.ref a) "zip" := fun _=>⟨_,hx,rfl⟩;have f1:=sub_AttributeError;have f3:=F.slot_zip_getattribute.lookup;have f4:=F.slot_zip_getattribute.bind (.ref a);have f5:=pC;unfold getAttr? getAttrBy? getAttrBy
 repeat (any_goals (first | assumption | exact hT _ | ((with_reducible show wpAny _ _ (call (Value.builtin "zip.__getattribute__") _ _) _ _ _); refine call_meets F.slot_zip_getattribute (hT _) jL (F.args_zip_getattribute_2 _ _) (iU a xs sl "keys" _ Qn (by decide +kernel)) ⟨hx,hA,fun h' tk' e hx'=>?_⟩) | wp_step))
 obtain⟨t',u',he⟩:=hx'.there;show wpAny _ _ (getattributeRaised _ _ _ _ _ _ _) _ _ _;unfold getattributeRaised
 repeat (any_goals (first | assumption | wp_step))
 exact h _ _ fun b o e=>hx'.keeps b o e
end
abbrev yN(h:Heap)(z TI TO t:Addr)(b:Bool):Prop:=
 h.get? z=some { cls:=.type "zip",dict:=none,data:=.fields #[rawInt t,.bool b,.bool false,.ref TI,.ref TO],slots:=#[] }
section
variable{prog:AC}{w:World}{A:Around}{E:AA->AB->Prop}{s:AB}
theorem Ir{z TI TO t:Addr}{b:Bool}{Q:Bool->AB->Prop}(hz:yN s.heap z TI TO t b)(ht:∃o,s.heap.get? t=some o)(q:∀h',yN h' z TI TO t true->Heap.SameBut z s.heap h'->Q false { s with heap:=h' }) :
  wpAny (model prog w) A (Builtin.SmallTypes.ownedTupleIsFree (.ref z)) Q E s:=by
 obtain⟨o,ho⟩:=ht;unfold Builtin.SmallTypes.ownedTupleIsFree;refine aL (gF hz rfl (x:=rawInt t) rfl ?_);show wpAny _ _ (loadIfAlive ((t:Int).toNat) >>= _) _ _ _;rw[qN];refine aL (PySem.W.kdx_alive ho ?_);simp only[Option.isNone_some,x_,if_false];refine aL (gF hz rfl (x:=.bool b) rfl ?_);cases b with
 | true=>
  rw[aN ⋯]
  exact bL (q s.heap hz (Heap.SameBut.refl _ _))
 | false=>
  rw[aV ⋯]
  refine aL (G6 hz (by simp) fun hA zA sA=>?_)
  exact bL (q hA zA sA)
structure Zc(z i1 i2:Addr)(f1 f2:List Addr):Prop where
 a4:i1≠z
 a5:i2≠z
 b1:z∉f1
 b2:z∉f2
 b5:i1∉f2
 b6:i2∉f1
theorem RT{z TI TO t i1 i2:Addr}{f1 f2:List Addr}{n1 n2 k:Nat}{P1 P2:Nat->AA->Prop}{S1 S2:Nat->Heap->Prop}{b:Bool}{Q:AA->AB->Prop}(Z:Zc z i1 i2 f1 f2)(D1:Draws prog w A i1 f1 n1 P1 S1)(D2:Draws prog w A i2 f2 n2 P2 S2)
  (hz:yN s.heap z TI TO t b) (ht:∃o,s.heap.get? t=some o) (hi:IsPair s.heap TI (.ref i1) (.ref i2)) (s1:S1 k s.heap) (s2:S2 k s.heap) (k1:k<n1) (k2:k<n2)
  (q:∀x y h' tk,P1 k x->P2 k y->yN h' z TI TO t true->S1 (k+1) h'->S2 (k+1) h'->IsPair h' s.heap.objs.size x y->(∀c o,c≠z->c≠i1->c≠i2->s.heap.get? c=some o->h'.get? c=some o)->Q (.ref s.heap.objs.size) { s with heap:=h',toks:=tk }) :
  wpAny (model prog w) A (Builtin.«zip.__next__» ⟨[.ref z],[]⟩) (fun fin s'=>∃v,fin=.done (.ret v)/\Q v s') E s:=by
 show wpAny _ _ (field (.ref z) 2 >>= _) _ _ _; refine aL (gF hz rfl (x:=.bool false) rfl ?_);show wpAny _ _ (field (.ref z) 3 >>= _) _ _ _; refine aL (gF hz rfl (x:=.ref TI) rfl (aL (oW hi rfl ?_)));show wpAny _ _ (Builtin.SmallTypes.ownedTupleIsFree (.ref z) >>= _) _ _ _;refine aL (Ir hz ht fun hA zA sA=>?_);simp only[x_,if_false];refine aL ?_;rw[<- Array.forIn_toList];simp only[DR,Ef];refine aL (aL (kY ?_)); show wpAny _ _ (Builtin.SmallTypes.nextOf (.ref i1) >>= _) _ _ _;refine aL (D1.item k _ _ _ k1 (D1.frame _ _ _ s1 (Di sA Z.b1)) fun x hB tB pB stb sB=>bL ?_);have uB:S2 k hB:=D2.frame _ _ _ (D2.frame _ _ _ s2 (Di sA Z.b2)) (Di sB Z.b5);refine bL (aL (aL (kY ?_))); show wpAny _ _ (Builtin.SmallTypes.nextOf (.ref i2) >>= _) _ _ _;refine aL (D2.item k _ _ _ k2 uB fun y hD tD pD std sD=>bL ?_);refine bL (bL (aL (wpAny_newTuple (hsz:=lK (aR (by decide:2<=1000))) ?_)))
 have zD:yN hD z TI TO t true:=sD.extBut _ _ Z.a5.symm (sB.extBut _ _ Z.a4.symm zA);have size:hD.objs.size=s.heap.objs.size:=by rw[sD.1,sB.1,sA.1]
 have up:∀c o,hD.get? c=some o->(hD.push { cls:=.type "tuple",data:=.seq #[x,y] }).get? c=some o:=fun c o e=>cU _ e;have kB:∀c o,c≠z->c≠i1->c≠i2->s.heap.get? c=some o->hD.get? c=some o:=fun c o n1 n3 n4 e=>sD.extBut _ _ n4 (sB.extBut _ _ n3 (sA.extBut _ _ n1 e));have u1:S1 (k+1) hD:=D1.frame _ _ _ stb (Di sD Z.b6);have tJ:(hD.push { cls:=.type "tuple",data:=.seq #[x,y] }).get? hD.objs.size=some { cls:=.type "tuple",data:=.seq #[x,y] }:=cI _ rfl;refine bL ⟨_,rfl,?_⟩;show Q (.ref hD.objs.size) _;rw[size] at tJ ⊢;exact q x y _ tD pB pD (up _ _ zD) (D1.frame _ _ _ u1 fun c hc o e=>up c o e) (D2.frame _ _ _ std fun c hc o e=>up c o e) tJ fun c o n1 n3 n4 e=>up c o (kB c o n1 n3 n4 e)
theorem Nz{z TI TO t i1 i2:Addr}{f1 f2:List Addr}{n1 n2:Nat}{P1 P2:Nat->AA->Prop}{S1 S2:Nat->Heap->Prop}{b:Bool}{Q:Fin->AB->Prop}(Z:Zc z i1 i2 f1 f2)(D1:Draws prog w A i1 f1 n1 P1 S1)(D2:Draws prog w A i2 f2 n2 P2 S2)
  (hz:yN s.heap z TI TO t b) (ht:∃o,s.heap.get? t=some o) (hi:IsPair s.heap TI (.ref i1) (.ref i2)) (s1:S1 n1 s.heap)
  (q:∀h' e,(∀c o,c≠z->c≠i1->c≠i2->s.heap.get? c=some o->h'.get? c=some o)->(∃o,h'.get? e=some o/\o.cls=.type "StopIteration")->∀tk,E (.ref e) { s with heap:=h',toks:=tk }) :
  wpAny (model prog w) A (Builtin.«zip.__next__» ⟨[.ref z],[]⟩) Q E s:=by
 show wpAny _ _ (field (.ref z) 2 >>= _) _ _ _; refine aL (gF hz rfl (x:=.bool false) rfl ?_);show wpAny _ _ (field (.ref z) 3 >>= _) _ _ _; refine aL (gF hz rfl (x:=.ref TI) rfl (aL (oW hi rfl ?_)));show wpAny _ _ (Builtin.SmallTypes.ownedTupleIsFree (.ref z) >>= _) _ _ _;refine aL (Ir hz ht fun hA zA sA=>?_);simp only[x_,if_false];refine aL ?_;rw[<- Array.forIn_toList];simp only[DR,Ef];refine aL (aL (kY ?_)); show wpAny _ _ (Builtin.SmallTypes.nextOf (.ref i1) >>= _) _ _ _;refine aL (D1.done _ _ _ (D1.frame _ _ _ s1 (Di sA Z.b1)) fun hB x sB hx=>?_);exact q hB x (fun c o m1 m3 _ e=>sB _ _ m3 (sA.extBut _ _ m1 e)) hx _
theorem Zx{z TI TO t i1 i2:Addr}{f1 f2:List Addr}{n1 n2 k:Nat}{P1 P2:Nat->AA->Prop}{S1 S2:Nat->Heap->Prop}{b:Bool}{Q:Option AA->AB->Prop}(Z:Zc z i1 i2 f1 f2)(D1:Draws prog w A.in1 i1 f1 n1 P1 S1)(D2:Draws prog w A.in1 i2 f2 n2 P2 S2)
  (hz:yN s.heap z TI TO t b) (ht:∃o,s.heap.get? t=some o) (hi:IsPair s.heap TI (.ref i1) (.ref i2)) (s1:S1 k s.heap) (s2:S2 k s.heap) (k1:k<n1) (k2:k<n2)
  (q:∀x y h' tk,P1 k x->P2 k y->yN h' z TI TO t true->S1 (k+1) h'->S2 (k+1) h'->IsPair h' s.heap.objs.size x y->(∀c o,c≠z->c≠i1->c≠i2->s.heap.get? c=some o->h'.get? c=some o)->Q (some (.ref s.heap.objs.size)) { s with heap:=h',toks:=tk }) :
  wpAny (model prog w) A (pyNext (.ref z)) Q E s:=by
 have ty:s.TypeIs (.ref z) "zip" := ⟨_,hz,rfl⟩;unfold pyNext;refine aL (Ed (yc (name:=Str.ofString "__next__") ty F.slot_zip_next (sO F.slot_zip_next ty F.entry_zip_next ?_ (F.args_zip_next_1 _))));exact RT Z D1 D2 hz ht hi s1 s2 k1 k2 fun x y h' tk p1 p2 v1 v2 v3 v4 v5=>bL (q x y h' tk p1 p2 v1 v2 v3 v4 v5)
theorem Wi{z TI TO t i1 i2:Addr}{f1 f2:List Addr}{n1 n2:Nat}{P1 P2:Nat->AA->Prop}{S1 S2:Nat->Heap->Prop}{b:Bool}{Q:Option AA->AB->Prop}(Z:Zc z i1 i2 f1 f2)(D1:Draws prog w A.in1 i1 f1 n1 P1 S1)(D2:Draws prog w A.in1 i2 f2 n2 P2 S2)
  (hz:yN s.heap z TI TO t b) (ht:∃o,s.heap.get? t=some o) (hi:IsPair s.heap TI (.ref i1) (.ref i2)) (s1:S1 n1 s.heap)
  (q:∀h' tk,(∀c o,c≠z->c≠i1->c≠i2->s.heap.get? c=some o->h'.get? c=some o)->Q none { s with heap:=h',toks:=tk }):wpAny (model prog w) A (pyNext (.ref z)) Q E s:=by
 have ty:s.TypeIs (.ref z) "zip" := ⟨_,hz,rfl⟩;unfold pyNext;refine aL (Ed (yc (name:=Str.ofString "__next__") ty F.slot_zip_next (sO F.slot_zip_next ty F.entry_zip_next ?_ (F.args_zip_next_1 _))));refine Nz Z D1 D2 hz ht hi s1 fun h' e k hx tk=>?_;obtain⟨o,g,c⟩:=hx;exact aL (wpAny_isInstance (T:="StopIteration") (b:=true) ⟨o,g,c⟩ isSubtype_stop (bL (q _ tk k)))
end
def jl(acc:List (Key×V))(kvs:List (Key×V)):List (Key×V):=kvs.foldl (fun a p=>putK a p.1 p.2) acc
structure ZS(z TI TO i1 i2 a b:Addr)(i:Nat)(h:Heap):Prop where
 st:(IsZip h z TI TO .none/\∃x y,IsPair h TO x y)\/∃t fl,yN h z TI TO t fl/\(∃o,h.get? t=some o)/\t≠z/\t≠i1/\t≠i2
 p:IsPair h TI (.ref i1) (.ref i2)
 l:h.IsListIter i1 a i
 r:h.IsListIter i2 b i
structure Zn(z TI TO i1 i2:Addr):Prop where
 n1:TI≠z
 n2:TO≠z
 n3:TI≠TO
 n4:i1≠z
 n5:i2≠z
 n6:TO≠i1
 n7:TO≠i2
 n8:i1≠i2
 n9:TI≠i1
 n10:TI≠i2
section
variable{X:Cx}{ae:List (Addr×Obj)}{σ:St}{z TI TO i1 i2 a b:Addr}
theorem ZS.keep{i:Nat}{h h':Heap}(S:ZS z TI TO i1 i2 a b i h)(k:∀c o,h.get? c=some o->h'.get? c=some o):ZS z TI TO i1 i2 a b i h':=by
 obtain⟨st,p,l,r⟩:=S;refine⟨?_,k _ _ p,l.at fun o e=>k _ _ e,r.at fun o e=>k _ _ e⟩;rcases st with⟨g,x,y,e⟩ | ⟨t,fl,g,⟨o,e⟩,n⟩
 ·exact .inl ⟨k _ _ g,x,y,k _ _ e⟩
 ·exact .inr ⟨t,fl,k _ _ g,⟨o,k _ _ e⟩,n⟩
theorem RM{H:Hp}{s:AB}{A:Around}{E:AA->AB->Prop}{xs ys:List V}{i:Nat}{x y:V}{Q:Option AA->AB->Prop}(N:Zn z TI TO i1 i2)(I:Inv X ae σ H s)(hh:A.handled=none)(ha:H a=some (.lst xs))(hb:H b=some (.lst ys))(S:ZS z TI TO i1 i2 a b i s.heap)
  (hf:∀c∈[z,TI,TO,i1,i2],eE X ae H c) (hx:xs[i]?=some x) (hy:ys[i]?=some y)
  (q:∀t u v s1,RelV x u->RelV y v->Inv X ae σ H s1->IsPair s1.heap t u v->ZS z TI TO i1 i2 a b (i+1) s1.heap->Q (some (.ref t)) s1):wpAny (model X.prog X.w) A (pyNext (.ref z)) Q E s:=by
 obtain⟨us,ru,pu⟩:=kL.inv I (cz.of ha);obtain⟨vs,rv,pv⟩:=kL.inv I (cz.of hb);obtain⟨u,hu,ru'⟩:=ru.get hx;obtain⟨v,hv,rv'⟩:=rv.get hy;have na:∀c∈[z,TI,TO,i1,i2],a≠c:=fun c hc=>kL.ne I (cz.of ha) (hf c hc);have nb:∀c∈[z,TI,TO,i1,i2],b≠c:=fun c hc=>kL.ne I (cz.of hb) (hf c hc);have hh1:A.in1.handled=none:=hh;have l1:i<us.toArray.size:=by have:=(iW.mp hu).1; simpa using this
 have l2:i<vs.toArray.size:=by have:=(iW.mp hv).1; simpa using this
 have eu:∀{u':AA},us.toArray[i]?=some u'->u'=u:=fun {u'} hu'=>by
  have:us[i]?=some u':=by simpa using hu'
  rw[hu] at this; exact(Option.some.inj this).symm
 have ev:∀{u':AA},vs.toArray[i]?=some u'->u'=v:=fun {u'} hu'=>by
  have:vs[i]?=some u':=by simpa using hu'
  rw[hv] at this; exact(Option.some.inj this).symm
 obtain⟨st,p,l,r⟩:=S;have fk:∀c∈[z,TO,i1,i2],eE X ae H c:=fun c hc=>hf c (by simp only[bK,fD,or_false] at hc ⊢; rcases hc with h | h | h | h <;> simp[h])
 rcases st with⟨g,xo,yo,e⟩ | ⟨t,fl,g,e,nt⟩
 ·have Z:V7 z TI TO i1 i2 [i1,a] [i2,b]:=⟨N.n1,N.n2,N.n3,N.n4,N.n5,N.n6,N.n7,N.n8,by simp; exact⟨N.n4.symm,(na z (by simp)).symm⟩,by simp; exact⟨N.n5.symm,(nb z (by simp)).symm⟩,by simp; exact⟨N.n6,(na TO (by simp)).symm⟩,by simp; exact⟨N.n7,(nb TO (by simp)).symm⟩,by simp; exact⟨N.n8,(nb i1 (by simp)).symm⟩,by simp; exact⟨N.n8.symm,(na i2 (by simp)).symm⟩⟩
  have lz:z<s.heap.objs.size:=bI g;have li1:i1<s.heap.objs.size:=by obtain⟨o,e,_⟩:=l; exact bI e
  have li2:i2<s.heap.objs.size:=by obtain⟨o,e,_⟩:=r; exact bI e
  refine Nt Z (kL.dr hh1 (na i1 (by simp)) us.toArray) (kL.dr hh1 (nb i2 (by simp)) vs.toArray) g p e (show _/\_ from⟨l,pu⟩) (show _/\_ from⟨r,pv⟩) l1 l2 fun u' v' h' tk hu' hv' z1 z2 z3 z4 z5 z6 kk=>?_
  cases eu hu';cases ev hv';have I1:Inv X ae σ H { s with heap:=h',toks:=tk }:=I.lE (fp:=[z,TO,i1,i2]) (fun c o hc q=>kk c o (fun w=>hc (by simp[w])) (fun w=>hc (by simp[w])) (fun w=>hc (by simp[w])) (fun w=>hc (by simp[w])) q) fk
  exact q _ _ _ _ ru' rv' I1 z5 ⟨.inr ⟨_,false,z1,⟨_,z5⟩,xY lz,xY li1,xY li2⟩,kk _ _ N.n1 N.n3 N.n9 N.n10 p,z3.1,z4.1⟩
 ·have Z:Zc z i1 i2 [i1,a] [i2,b]:=⟨N.n4,N.n5,by simp; exact⟨N.n4.symm,(na z (by simp)).symm⟩,by simp; exact⟨N.n5.symm,(nb z (by simp)).symm⟩,by simp; exact⟨N.n8,(nb i1 (by simp)).symm⟩,by simp; exact⟨N.n8.symm,(na i2 (by simp)).symm⟩⟩
  refine Zx Z (kL.dr hh1 (na i1 (by simp)) us.toArray) (kL.dr hh1 (nb i2 (by simp)) vs.toArray) g e p (show _/\_ from⟨l,pu⟩) (show _/\_ from⟨r,pv⟩) l1 l2 fun u' v' h' tk hu' hv' z1 z3 z4 z5 kk=>?_
  cases eu hu';cases ev hv';have I1:Inv X ae σ H { s with heap:=h',toks:=tk }:=I.lE (fp:=[z,TO,i1,i2]) (fun c o hc q=>kk c o (fun w=>hc (by simp[w])) (fun w=>hc (by simp[w])) (fun w=>hc (by simp[w])) q) fk
  obtain⟨ot,et⟩:=e;exact q _ _ _ _ ru' rv' I1 z5 ⟨.inr ⟨t,true,z1,⟨ot,kk _ _ nt.1 nt.2.1 nt.2.2 et⟩,nt⟩,kk _ _ N.n1 N.n9 N.n10 p,z3.1,z4.1⟩
theorem RN{H:Hp}{s:AB}{A:Around}{E:AA->AB->Prop}{xs ys:List V}{Q:Option AA->AB->Prop}(N:Zn z TI TO i1 i2)(I:Inv X ae σ H s)(hh:A.handled=none)(ha:H a=some (.lst xs))(hb:H b=some (.lst ys))(S:ZS z TI TO i1 i2 a b xs.length s.heap)
  (hf:∀c∈[z,TI,TO,i1,i2],eE X ae H c)
  (q:∀s1,Inv X ae σ H s1->Q none s1):wpAny (model X.prog X.w) A (pyNext (.ref z)) Q E s:=by
 obtain⟨us,ru,pu⟩:=kL.inv I (cz.of ha);obtain⟨vs,rv,pv⟩:=kL.inv I (cz.of hb);have na:∀c∈[z,TI,TO,i1,i2],a≠c:=fun c hc=>kL.ne I (cz.of ha) (hf c hc);have nb:∀c∈[z,TI,TO,i1,i2],b≠c:=fun c hc=>kL.ne I (cz.of hb) (hf c hc);have hh1:A.in1.handled=none:=hh;have el:xs.length=us.toArray.size:=by rw[ru.length,d_]
 obtain⟨st,p,l,r⟩:=S;have fk:∀c∈[z,TO,i1,i2],eE X ae H c:=fun c hc=>hf c (by simp only[bK,fD,or_false] at hc ⊢; rcases hc with h | h | h | h <;> simp[h])
 rcases st with⟨g,xo,yo,e⟩ | ⟨t,fl,g,e,nt⟩
 ·have Z:V7 z TI TO i1 i2 [i1,a] [i2,b]:=⟨N.n1,N.n2,N.n3,N.n4,N.n5,N.n6,N.n7,N.n8,by simp; exact⟨N.n4.symm,(na z (by simp)).symm⟩,by simp; exact⟨N.n5.symm,(nb z (by simp)).symm⟩,by simp; exact⟨N.n6,(na TO (by simp)).symm⟩,by simp; exact⟨N.n7,(nb TO (by simp)).symm⟩,by simp; exact⟨N.n8,(nb i1 (by simp)).symm⟩,by simp; exact⟨N.n8.symm,(na i2 (by simp)).symm⟩⟩
  refine Ip Z (kL.dr hh1 (na i1 (by simp)) us.toArray) (kL.dr hh1 (nb i2 (by simp)) vs.toArray) g p e (show _/\_ from⟨l,pu⟩) (show _/\_ from⟨r,pv⟩) (.inl el) fun h' tk kk=>q _ ?_
  exact I.lE (fp:=[z,TO,i1,i2]) (fun c o hc q=>kk c o (fun w=>hc (by simp[w])) (fun w=>hc (by simp[w])) (fun w=>hc (by simp[w])) (fun w=>hc (by simp[w])) q) fk
 ·have Z:Zc z i1 i2 [i1,a] [i2,b]:=⟨N.n4,N.n5,by simp; exact⟨N.n4.symm,(na z (by simp)).symm⟩,by simp; exact⟨N.n5.symm,(nb z (by simp)).symm⟩,by simp; exact⟨N.n8,(nb i1 (by simp)).symm⟩,by simp; exact⟨N.n8.symm,(na i2 (by simp)).symm⟩⟩
  refine Wi Z (kL.dr hh1 (na i1 (by simp)) us.toArray) (kL.dr hh1 (nb i2 (by simp)) vs.toArray) g e p (show _/\_ from⟨by rw[<- el]; exact l,pu⟩) fun h' tk kk=>q _ ?_
  exact I.lE (fp:=[z,TO,i1,i2]) (fun c o hc q=>kk c o (fun w=>hc (by simp[w])) (fun w=>hc (by simp[w])) (fun w=>hc (by simp[w])) q) fk
end
section
variable{X:Cx}{ae:List (Addr×Obj)}{σ:St}{z TI TO i1 i2 a b p:Addr}{ks:List Key}{ys:List V}
theorem Kr(N:Zn z TI TO i1 i2)(hn:ks.length=ys.length)(hz:ks.length<=1000):∀(k i:Nat)(H:Hp)(s:AB)(A:Around)(acc:List (Key×V))(R:Result->AB->Prop),ks.length-i=k->i<=ks.length->A.handled=none->Inv X ae σ H s->H p=some (.dK acc)->acc.length<=i ->
  H a=some (.lst (ks.map kV))->H b=some (.lst ys)->ZS z TI TO i1 i2 a b i s.heap->(∀c∈[z,TI,TO,i1,i2],eE X ae H c) ->
  (∀s',Inv X ae σ (upd H p (.dK (jl acc ((ks.zip ys).drop i)))) s'->R (.ok (.ret .none)) s') ->
  wpAny (model X.prog X.w) A.in1 (Builtin.«dict.update.loop» ⟨[.ref p,.ref z,rawInt i,.none],[]⟩) (fun fin s'=>match fin with | .done f=>R (.ok f) s' | .again c'=>c'.quiet=true/\codeAny (model X.prog X.w) A c' R s') (fun e s'=>R (.error e) s') s:=by
 intro k
 induction k with
 | zero=>
  intro i H s A acc R hk hi hh I hp hacc ha hb S fp q;have ei:i=ks.length:=by omega
  unfold Builtin.«dict.update.loop»;refine aL (RN N I hh ha hb (by rw[bZ,<- ei]; exact S) fp fun s1 I1=>?_)
  dsimp only;unfold Builtin.Dict.addKeywords
  wp_walk
  refine q s1 ?_;have e:(ks.zip ys).drop i=[]:=List.drop_eq_nil_of_le (by rw[List.length_zip]; omega)
  rw[e]
  have eH:upd H p (.dK (jl acc []))=H:=by
   funext c
   by_cases w:c=p
   ·rw[w,aB,hp]; rfl
   ·rw[aC w]
  rw[eH];exact I1
 | succ k ih=>
  intro i H s A acc R hk hi hh I hp hacc ha hb S fp q;have hik:i<ks.length:=by omega
  have hiy:i<ys.length:=by omega
  have hd:(ks.zip ys).drop i=(ks[i],ys[i])::(ks.zip ys).drop (i+1):=by
   rw[G8 (by rw[List.length_zip]; omega),List.getElem_zip]
  unfold Builtin.«dict.update.loop»;refine aL (RM N I hh ha hb S fp (x:=kV ks[i]) (y:=ys[i]) (by rw[cD,cN hik]; rfl) (cN hiy) fun t u v s1 ru rv I1 e1 S1=>?_)
  dsimp only;have hT:s1.TypeIs (.ref t) "tuple" := ⟨_,e1,rfl⟩;refine aL (kY ?_);unfold Builtin.Dict.pairItems;refine aL (wC (aL (Bd hT ?_)));rw[aV ⋯]
  refine aL (oW e1 rfl (bL ?_));obtain⟨zz,hsm,ws,rel,dd⟩:=rB I1.hok hp;have hz':ws.length<=sizeLine:=by rw[<- rel.length]; exact zz
  have hl:(putK acc ks[i] ys[i]).length<=sizeLine:=by have h1:=fY acc ks[i] ys[i]; have h2:=aR (n:=acc.length+1) ∅; omega
  refine kY (wpAny_dictSet_pairs (hsz:=hz') (wZ ru) dd fun h2 dd2 hs=>?_);have he:∃q,h2.get? p=some q:=let ⟨q,_,_,hq,_⟩:=dd2; ⟨q,hq⟩;have I2:=oK (t':=s1.toks+1) I1 (by rw[hp]; exact True.intro) hs he (Cu hl hsm (rel.put ks[i] rv) dd2)
  have npH:∀c,H c=none->c≠p:=fun c hc w=>by rw[w,hp] at hc; cases hc
  have nl:∀c zs,H c=some (.lst zs)->c≠p:=fun c zs hc w=>by rw[w,hp] at hc; cases hc
  refine bL ⟨plainId_quiet fW _,codeAny_builtin ou ?_⟩;rw[Around.under_plainId fW _];refine ih (i+1) _ _ A (putK acc ks[i] ys[i]) R ∅ ∅ hh I2 aB (by have:=fY acc ks[i] ys[i]; omega) (by rw[aC (nl _ _ ha)]; exact ha) (by rw[aC (nl _ _ hb)]; exact hb) ?_ (fun c hc=>⟨by rw[aC (npH c (fp c hc).1)]; exact(fp c hc).1,(fp c hc).2⟩) fun s' J=>?_
  ·have kc:∀c o,c∈[z,TI,TO,i1,i2]->s1.heap.get? c=some o->h2.get? c=some o:=fun c o hc e=>(hs.2 c (npH c (fp c hc).1)).trans e;obtain⟨st,p',l,r⟩:=S1;refine⟨?_,kc _ _ (by simp) p',l.at fun o e=>kc _ _ (by simp) e,r.at fun o e=>kc _ _ (by simp) e⟩
   rcases st with⟨g,x,y,e⟩ | ⟨t',fl,g,⟨o,e⟩,n⟩
   ·exact .inl ⟨kc _ _ (by simp) g,x,y,kc _ _ (by simp) e⟩
   ·refine .inr ⟨t',fl,kc _ _ (by simp) g,?_,n⟩
    by_cases w:t'=p
    ·rw[w]; exact he
    ·exact⟨o,(hs.2 t' w).trans e⟩
  ·rw[hd] at q;refine q s' ?_;have eH:upd (upd H p (.dK (putK acc ks[i] ys[i]))) p (.dK (jl (putK acc ks[i] ys[i]) ((ks.zip ys).drop (i+1))))=upd H p (.dK (jl acc ((ks[i],ys[i])::(ks.zip ys).drop (i+1)))):=uO;rw[<- eH];exact J
end
section
variable{X:Cx}
def Dw(ta:TA):TE:=fun σ H Q=>ta σ H fun vs H1=>∃(a b:Addr)(ks:List Key)(ys:List V),vs=[.ref a,.ref b]/\H1 a=some (.lst (ks.map kV))/\H1 b=some (.lst ys)/\ks.length=ys.length/\ks.length<=1000/\∀p H',H1 p=none->aJ H1 H'->H' p=some (.dK (jl [] (ks.zip ys)))->Q (.ref p) H'
theorem Ha{e e':Expr}{p p2 pos pos2:Pos}{ta:TA}(hc:X.calm=true)(hm:X.mg "dict" = none)(hm2:X.mg "zip" = none)(ha:PA X [e,e'] ta)(hg: ~~~(Gl X "dict"))(hg2: ~~~(Gl X "zip"))(h1: ~~~(bJ e=true))(h2: ~~~(bJ e'=true))
  (h3: ~~~(bJ (.Call (.Name "zip" p2) [e,e'] [] pos2)=true)) :
  PE X (.Call (.Name "dict" p) [.Call (.Name "zip" p2) [e,e'] [] pos2] [] pos) (Dw ta):=by
 symm;intro Q I h;refine qQ (gZ I hg hm vm ?_ ⋯ ⋯)
 refine PyProof.Rows.callWith_type1 ?_ (bU h3) rfl;rw[bU h3];show wpAny _ _ (spliced ((false,eval (.Call (.Name "zip" p2) [e,e'] [] pos2) X.env)::backTo pos (starEach [] X.env))) _ _ s;refine Calls.spliced_cons ?_;refine qQ (gZ I hg2 hm2 Ia ?_ ⋯ ⋯)
 refine PyProof.Rows.callWith_type1 (cA (ha pos2 ae s σ H _ I h) fun us s1 qx=>?_) (bU h1) (b7 (es:=[e']) (by simp[h2]))
 obtain⟨vs,H1,I1,r1,a,b,ks,ys,rfl,hla,hlb,hn,hz,q⟩:=qx;obtain⟨u,v,rfl,ru,rv⟩:=r1.two;cases ru;cases rv;obtain⟨us,_,pu,_⟩:=I1.list (cz.of hla);obtain⟨ws,_,pw,_⟩:=I1.list (cz.of hlb);refine Ab pu.isList pw.isList fun h' hzz hp ho l1 l2 kk=>?_;have I2:Inv X ae σ H1 { s1 with heap:=h' }:=I1.kept (t':=s1.toks) kk
 have fr:∀n,H1 (s1.heap.objs.size+n)=none:=fun n=>I1.hok.fresh (zH _ _);have fk:∀n,eE X ae H1 (s1.heap.objs.size+n):=fun n=>I1.nR (zH _ _) (fr n);have ne:∀i j:Nat,i≠j->s1.heap.objs.size+i≠s1.heap.objs.size+j:=fun i j n e=>n (Nat.add_left_cancel e);have N:Zn (s1.heap.objs.size+4) (s1.heap.objs.size+2) (s1.heap.objs.size+3) s1.heap.objs.size (s1.heap.objs.size+1):=⟨ne _ _ ⋯,ne _ _ ⋯,ne _ _ ⋯,ne 0 _ ⋯,ne _ _ ⋯,ne _ 0 ⋯,ne _ _ ⋯,ne 0 _ ⋯,ne _ 0 ⋯,ne _ _ ⋯⟩
 have S0:ZS (s1.heap.objs.size+4) (s1.heap.objs.size+2) (s1.heap.objs.size+3) s1.heap.objs.size (s1.heap.objs.size+1) a b 0 h':=⟨.inl ⟨hzz,_,_,ho⟩,hp,l1,l2⟩
 have fp:∀c∈[s1.heap.objs.size+4,s1.heap.objs.size+2,s1.heap.objs.size+3,s1.heap.objs.size,s1.heap.objs.size+1],eE X ae H1 c:=fun c hc=>by
  simp only[bK,fD,or_false] at hc;rcases hc with rfl | rfl | rfl | rfl | rfl
  ·exact fk 4
  ·exact fk 2
  ·exact fk 3
  ·exact fk 0
  ·exact fk 1
 clear fr fk ne l1 l2 hp ho;generalize s1.heap.objs.size+4=z at *;generalize s1.heap.objs.size+2=TI at *;generalize s1.heap.objs.size+3=TO at *;generalize s1.heap.objs.size+1=i2 at *;generalize s1.heap.objs.size=i1 at *;obtain⟨s2,hs2⟩:∃s2,({ s1 with heap:=h' }:AB)=s2:=⟨_,rfl⟩
 have e2:h'=s2.heap:=by rw[<- hs2]
 rw[hs2] at I2 ⊢;rw[e2] at S0 hzz;refine Calls.spliced_nil ?_;have hh:X.A.handled=none:=I2.ok.hd hc;have hf:=I2.hok.fresh (bc s2.heap.objs.size);have I3:=I2.laid (a:=s2.heap.objs.size) (o:=.dK []) (t':=s2.toks) (fun _ _ q=>cU _ q) (bc _) (xu s2.heap I2.big);have sm:=aM hf (.dK []);have hd3:upd H1 s2.heap.objs.size (.dK []) s2.heap.objs.size=some (.dK []):=aB;refine callType_codes (Q₁:=fun obj s₁=>obj=.ref s2.heap.objs.size/\s₁={ s2 with heap:=s2.heap.push { cls:=.type "dict",data:=.dict #[] } }) F.kt_called_dict (F.kt_typeCall_dict_1 _) F.entry_dict_init (kt_code_dict_new _ ⟨rfl,rfl⟩) ?_
 rintro obj s₁ ⟨rfl,rfl⟩;have hT:Shared.TypeIs { s2 with heap:=s2.heap.push { cls:=.type "dict",data:=.dict #[] } } (.ref s2.heap.objs.size) "dict" := ⟨_,cI _ rfl,rfl⟩
 refine⟨hT,F.args_dict_init_2 _ _,?_⟩;unfold Builtin.«dict.__init__»;refine aL ?_;unfold Builtin.Dict.selfAndRest;refine aL (wpAny_notOrdered_dict hT ?_);show wpAny _ _ (pure (s2.heap.objs.size,[Value.ref z])) _ _ _;refine bL ?_;show wpAny _ _ (Builtin.Dict.updateFrom "dict.__init__" s2.heap.objs.size (.ref z) [] .none) _ _ _;unfold Builtin.Dict.updateFrom;have ez:(s2.heap.push { cls:=.type "dict",data:=.dict #[] }).get? z=some _:=cU _ hzz;refine aL (Bd ⟨_,ez,rfl⟩ ?_);rw[aV ⋯]
 refine aL (Hq ez hh fun h4 tk k4=>?_);rw[aV ⋯]
 refine aL (ur ?_);have I4:=I3.kept (t':=tk) k4;have S4:=S0.keep (h':=h4) fun c o e=>k4 _ _ (cU _ e)
 have fp4:∀c∈[z,TI,TO,i1,i2],eE X ae (upd H1 s2.heap.objs.size (.dK [])) c:=fun c hc=>by
  have lt:c<s2.heap.objs.size:=by
   obtain⟨st,p',l,r⟩:=S0;rcases st with⟨g,x,y,e⟩ | ⟨t',fl,g,⟨o,e⟩,n⟩
   ·simp only[bK,fD,or_false] at hc;rcases hc with rfl | rfl | rfl | rfl | rfl
    ·exact bI g
    ·exact bI p'
    ·exact bI e
    ·obtain⟨o,e,_⟩:=l; exact bI e
    ·obtain⟨o,e,_⟩:=r; exact bI e
   ·have g':s2.heap.get? z=some _:=g;have h'':s2.heap.get? z=some _:=hzz;rw[h''] at g';exact absurd g' (by intro w; cases w)
  exact⟨by rw[aC (cZ lt)]; exact(fp c hc).1,(fp c hc).2⟩
 refine aL (Jm (show IsZip h4 z TI TO .none from k4 _ _ ez) ?_);refine bL ⟨plainId_quiet fW _,codeAny_builtin ou ?_⟩;rw[Around.under_plainId fW _];refine Kr (p:=s2.heap.objs.size) (ks:=ks) (ys:=ys) N hn hz ks.length 0 _ _ X.A.in1 [] _ ∅ (eV _) hh I4 aB (eV _) (sm _ _ hla) (sm _ _ hlb) S4 fp4 fun s' J=>?_
 rw[uO] at J;exact⟨rfl,.ref s2.heap.objs.size,_,J,rfl,q _ _ hf (aM hf _) aB⟩
end
structure Il(K:Frag)(x qual:Str)(st:Stmt)(f:Addr)(fd:FuncData)(T:Addr):Prop where
 ex:∃(oc:AA)(od:Option Addr)(kV doc pm:AA)(an:Option Addr)(cdv ct:AA)(osl:Array (Option AA)),
  fd=fnOf x qual (b_ st) (bT st) (aG st) (.ref T) kV doc pm an cdv ct/\K.lookup f=some ⟨oc,od,.func fd,osl⟩/\codeIn K cdv qual=true
 kp:keepIn K (.ref f)=true
 df:∃o n,K.lookup T=some o/\o.data=.seq #[.none] n
section
variable{P:AC}{w:World}{K:Frag}{mg:Str->Option AA}{base:Heap}
theorem Il.okE{x qual:Str}{st:Stmt}{f T:Addr}{fd:FuncData}{N ps:List Str}{k:Nat}{sp:Sp}(F:Il K x qual st f fd T)(S:aX N ps (aG st))(len: autoParam (∀vs H Q E,sp vs H Q E->vs.length=ps.length) zg._auto_1)
  (hbody:∀(cdv:AA)(A:Around)(outer:List Env)(s:AB)(H:Hp)(vs:List V)(Q:VK)(E:XK),jT P w H s.heap->dR k (A.deeper (envOfC qual (aG st) s.heap.objs.size f cdv))->sp vs H Q E ->
   ∃t,Aj (gq (mz P w) P w K mg base N qual (aG st) f cdv A outer s H E) (bT st) t/\t { nx:=fun _ H'=>Q .non H',rt:=Q } (start N vs) H):bH P w K mg base (mz P w) (k+1) f fd ps sp:=by
 obtain⟨oc,od,kV,doc,pm,an,cdv,ct,osl,rfl,lk,hcd⟩:=F.ex;exact QQ lk hcd S len fun A outer s H vs Q E Nh hr hsp=>hbody cdv A outer s H vs Q E Nh hr hsp
theorem Il.binds{x qual:Str}{st:Stmt}{f T:Addr}{fd:FuncData}{ps:List Str}{ds:List AA}(F:Il K x qual st f fd T)
  (h:∀(kV doc pm:AA)(an:Option Addr)(cdv ct:AA)(us:List AA),(us++ds).length=ps.length->∃k,bindArgs (fnOf x qual (b_ st) (bT st) (aG st) (.ref T) kV doc pm an cdv ct) ⟨us,[]⟩=seqItems? (.ref T) >>= k/\k (some #[.none])=pure (ps.zip (us++ds))):Binds K fd ps ds:=by
 obtain⟨oc,od,kV,doc,pm,an,cdv,ct,osl,rfl,lk,hcd⟩:=F.ex;obtain⟨o,n,ho,hd⟩:=F.df;intro s us KX hl;obtain⟨k,h1,h2⟩:=h kV doc pm an cdv ct us hl;exact BindsTo.of_defaults rfl (KX _ _ ho) hd h1 h2
structure Df(P:AC)(w:World)(K:Frag)(mg:Str->Option AA)(base:Heap)(k:Nat)(C:Addr)(m:Str)(ps:List Str)(sp:Sp) where
 f:Addr
 fd:FuncData
 G:bH P w K mg base ig k f fd ps sp
 M:Meth K C m f
 c:Dk K C
 b:Binds K fd ps []
structure Gf(P:AC)(w:World)(K:Frag)(mg:Str->Option AA)(base:Heap)(k:Nat)(C:Addr)(m:Str)(ps:List Str)(sp:Sp) where
 f:Addr
 fd:FuncData
 G:bH P w K mg base (mz P w) k f fd ps sp
 M:Meth K C m f
 c:Dk K C
 b:Binds K fd ps []
structure Yy(P:AC)(w:World)(K:Frag)(mg:Str->Option AA)(base:Heap)(k:Nat)(C:Addr)(x:Str)(ps:List Str)(sp:Sp) where
 f:Addr
 fd:FuncData
 j:Nat
 hj:j+1<=k
 G:bH P w K mg base ig j f fd ps sp
 M:Mk K C f
 b:Binds K fd ps []
 bd:Binds K fd ps [.none]
 m:mg x=some (.ref C)
structure Yx(P:AC)(w:World)(K:Frag)(mg:Str->Option AA)(base:Heap)(k:Nat)(C:Addr)(x:Str)(ps:List Str)(sp:Sp) where
 f:Addr
 fd:FuncData
 j:Nat
 hj:j+1<=k
 G:bH P w K mg base (mz P w) j f fd ps sp
 M:Mk K C f
 b:Binds K fd ps []
 bd:Binds K fd ps [.none]
 m:mg x=some (.ref C)
theorem bH.calm{k:Nat}{f:Addr}{fd:FuncData}{ps:List Str}{sp:Sp}(G:bH P w K mg base (mz P w) k f fd ps sp):bH P w K mg base ig k f fd ps (fun vs H Q _=>sp vs H Q E0):=
 ⟨fun vs H Q E h=>G.len _ _ _ _ h,fun A outer s H args us vs Q E hr he hb hv h=>codeAny_mono (G.run A outer s H args us vs Q E0 hr he hb hv h) fun r s' z=>by
  cases r with
  | error e=>
   obtain⟨_,_,_,_,_,_,_,_,_,_,_,_,_,q⟩:=z;exact q.elim
  | ok fl=>cases fl <;> exact z⟩
def Df.mono{j k:Nat}{C:Addr}{m:Str}{ps:List Str}{sp:Sp}(c:Df P w K mg base j C m ps sp)(h:j<=k):Df P w K mg base k C m ps sp:={ c with G:=c.G.mono h }
def Gf.mono{j k:Nat}{C:Addr}{m:Str}{ps:List Str}{sp:Sp}(c:Gf P w K mg base j C m ps sp)(h:j<=k):Gf P w K mg base k C m ps sp:={ c with G:=c.G.mono h }
def Yy.mono{j k:Nat}{C:Addr}{m:Str}{ps:List Str}{sp:Sp}(c:Yy P w K mg base j C m ps sp)(h:j<=k):Yy P w K mg base k C m ps sp:={ c with hj:=jJ c.hj h }
def Gf.calm{k:Nat}{C:Addr}{m:Str}{ps:List Str}{sp:Sp}(c:Gf P w K mg base k C m ps sp):Df P w K mg base k C m ps (fun vs H Q _=>sp vs H Q E0):=⟨c.f,c.fd,c.G.calm,c.M,c.c,c.b⟩
def Yx.calm{k:Nat}{C:Addr}{m:Str}{ps:List Str}{sp:Sp}(c:Yx P w K mg base k C m ps sp):Yy P w K mg base k C m ps (fun vs H Q _=>sp vs H Q E0):=⟨c.f,c.fd,c.j,c.hj,c.G.calm,c.M,c.b,c.bd,c.m⟩
def RK.alias{k:Nat}{x y:Str}{ps:List Str}{i:Int}{sp:Sp}(c:RK P w K mg base k x ps i sp)(h:mg y=some (.ref c.f)):RK P w K mg base k y ps i sp:=⟨c.f,c.fd,c.t,c.G,c.kp,c.b,c.bd,h⟩
end
section
variable{X:Cx}{C:Addr}{m x:Str}{apos pos p:Pos}{o e:Expr}{es:List Expr}{ta:TE}{t:TA}{k:Nat}{ps:List Str}{sp:Sp}
theorem pm(c:Df X.prog X.w X.K X.mg X.base k C m ps sp)(hr:dR k X.A)(ho:PE X o ta)(ha:PA X (e::es) t)(h1: ~~~(bJ e=true))(h2: ~~~(es.all bJ=true)){pl:Sem Bool}
  (ht: ~~~(eval (.Call (.Attribute o m apos) (e::es) [] pos) X.env=(do
   let ov <- eval o X.env
   standAt apos.atName
   let (f,first) <- holding [ov] (getMethod ov m pl)
   callWith pos f first (backTo pos (starEach (e::es) X.env)) (backToKw pos (keywordEach [] X.env))))):PE X (.Call (.Attribute o m apos) (e::es) [] pos) (Du C m sp [] E0 ta t):=
 Tn ho c.c c.M c.G hr c.b .nil zO ha (bU h1) (b7 h2) ht
theorem pm0(c:Df X.prog X.w X.K X.mg X.base k C m ps sp)(hr:dR k X.A)(ho:PE X o ta){pl:Sem Bool}
  (ht: ~~~(eval (.Call (.Attribute o m apos) [] [] pos) X.env=(do
   let ov <- eval o X.env
   standAt apos.atName
   let (f,first) <- holding [ov] (getMethod ov m pl)
   callWith pos f first (backTo pos (starEach [] X.env)) (backToKw pos (keywordEach [] X.env))))):PE X (.Call (.Attribute o m apos) [] [] pos) (Du C m sp [] E0 ta Ao):=
 PL ho c.c c.M c.G hr c.b .nil zO ht
theorem pk(c:Yy X.prog X.w X.K X.mg X.base k C x ps sp)(hr:dR k X.A)(ha:PA X (e::es) t)(hg: ~~~(Gl X x))(hdb:((x==("__debug__" : Str))=false)⁻¹)(h1: ~~~(bJ e=true))(h2: ~~~(es.all bJ=true)) :
  PE X (.Call (.Name x p) (e::es) [] pos) (IV C sp [] E0 t):=JH c.M c.G (hr.mono c.hj) hg c.m c.b .nil zO ha hdb (bU h1) (b7 h2)
theorem pkd(c:Yy X.prog X.w X.K X.mg X.base k C x ps sp)(hr:dR k X.A)(ha:PA X (e::es) t)(hg: ~~~(Gl X x))(hdb:((x==("__debug__" : Str))=false)⁻¹)(h1: ~~~(bJ e=true))(h2: ~~~(es.all bJ=true)) :
  PE X (.Call (.Name x p) (e::es) [] pos) (IV C sp [.non] E0 t):=JH c.M c.G (hr.mono c.hj) hg c.m c.bd (.cons rfl .nil) zO ha hdb (bU h1) (b7 h2)
theorem cH{K:Frag}{f:Str}(hK:X.K=K)(he:PE X e ta)(hb: ~~~(attributeBase e f X.env (eval e X.env)=eval e X.env)):PE X (.Attribute e f pos) (Wn K ta f):=by
 subst hK;exact Xe he hb
theorem lM{K:Frag}{f:Str}{value:Expr}{pos':Pos}{tv:TE}(hK:X.K=K)(ha:PE X o ta)(hv:PE X value tv)(hs: ~~~(swapsWith value (some (.Attribute o f pos')) pos.line X.env=pure false)):PS X (.Assign [.Attribute o f pos'] value pos) (Wz K ta tv f):=by
 subst hK;exact WW ha hv hs
end
section
variable{P:AC}{w:World}{K:Frag}{mg:Str->Option AA}{base:Heap}{N:List Str}{qual:Str}{scope:Scope}{f:Addr}{cd:AA}{A:Around}{outer:List Env}{s0:AB}{H0:Hp}{E:XK}
def Wm(C:Addr)(m:Str)(sp:Sp)(E:XK)(ta:TE)(t:TA):TE:=fun σ H Q=>ta σ H fun x H1=>∃a dx fs,x=.ref a/\H1 a=some (.ins C dx fs)/\fs.lookup m=none/\t σ H1 fun vs H2=>sp (.ref a::vs) H2 Q (fun cls _ H3=>∀H4,(aJ H2 H3->aJ H2 H4)->E cls none H4)
end
def Vc(C:Addr)(m:Str)(sp:Sp)(ta:TE)(t:TA):TX:=fun σ H Q EE=>ta σ H fun x H1=>∃a dx fs,x=.ref a/\H1 a=some (.ins C dx fs)/\fs.lookup m=none/\t σ H1 fun vs H2=>sp (.ref a::vs) H2 Q (fun cls _ H3=>EE cls H2 H3)
section
variable{X:Cx}
theorem ac8{k:Nat}{C:Addr}{m:Str}{apos pos:Pos}{o e:Expr}{es:List Expr}{ps:List Str}{sp:Sp}{ta:TE}{t:TA}(c:Gf X.prog X.w X.K X.mg X.base k C m ps sp)(hr:dR k X.A)(ho:PE X o ta)(ha:PA X (e::es) t)
  (hn: autoParam (∀e s,X.xe e s->False) zi._auto_1) (h1: ~~~(bJ e=true)) (h2: ~~~(es.all bJ=true)) {pl:Sem Bool}
  (ht: ~~~(eval (.Call (.Attribute o m apos) (e::es) [] pos) X.env=(do
   let ov <- eval o X.env
   standAt apos.atName
   let (g,first) <- holding [ov] (getMethod ov m pl)
   callWith pos g first (backTo pos (starEach (e::es) X.env)) (backToKw pos (keywordEach [] X.env))))) :
  PX X (.Call (.Attribute o m apos) (e::es) [] pos) (Vc C m sp ta t):=by
 symm;intro Q EE I h;refine methodCall_KW (pl:=pl) (jj (ho ae s σ H _ I h) (fun u s1 qx=>?_) fun _ _ z=>(hn _ _ z).elim) ht;obtain⟨x,H1,I1,rx,a,dx,fs,ex,ea,l,q⟩:=qx;subst ex;obtain rfl:u=Value.ref a:=rx;refine qd I1 ea c.c c.M l ?_;refine callWith_K (first:=[.ref a]) (h₀:=X.base) I.ok.mod.Qq c.M.kp (jj (ha pos ae s1 σ H1 _ I1 q) (fun us s2 qx=>?_) fun _ _ z=>(hn _ _ z).elim) (bU h1) (b7 h2)
 obtain⟨vs,H2,I2,r,q2⟩:=qx;refine⟨I2.lg,?_⟩;have hl2:(Value.ref a::us).length=ps.length:=by rw[fC,<- r.length,<- fC (a:=V.ref a)]; exact c.G.len _ _ _ _ q2
 have hb:=c.b s2 (Value.ref a::us) I2.lg (by rw[oX]; exact hl2)
 rw[oX] at hb;refine wpAny_call (codeAny_mono (c.G.run _ _ s2 H2 ⟨Value.ref a::us,[]⟩ (Value.ref a::us) (V.ref a::vs) _ _ hr I2.env0 hb (.cons rfl r) q2) fun r s' z=>?_);cases r with
 | error e'=>exact⟨H2,s2,fun cls _ H3=>EE cls H2 H3,I2,z,fun cls H3 y=>y⟩
 | ok fl=>
  cases fl with
  | ret u=>
   obtain⟨v,H3,I3,rv3,q3⟩:=I2.after z;exact⟨v,H3,I3,rv3,q3⟩
  | next=>exact False.elim z
  | brk=>exact False.elim z
  | cont=>exact False.elim z
end
theorem Xh{X:Cx}{K:Frag}(hK:X.K=K):mX X (compareOp .In) (rIn K false):=by
 subst hK;exact Ln
theorem zP{X:Cx}{K:Frag}(hK:X.K=K):mX X (compareOp .NotIn) (rIn K true):=by
 subst hK;exact Bv
theorem tu(ns:List Str):(ns.map V.str).all rA=true:=by
 rw[List.all_map];exact oY.mpr fun _ _=>rfl
theorem vd(n:Str)(ns:List Str):inV (.str n) (ns.map V.str)=decide (n∈ns):=by
 unfold inV;rw[List.any_map]
 induction ns with
 | nil=>rfl
 | cons a r ih=>
  rw[wB,ih];by_cases h:n=a
  ·subst h;simp[Ry]
  ·have:¬a=n:=fun z=>h z.symm;simp[Ry,h,this]
def dW(H H':Hp):Prop:=∀b xs,H b=some (.tup xs)->H' b=some (.tup xs)
theorem dW.trans{H H1 H2:Hp}(a:dW H H1)(b:dW H1 H2):dW H H2:=fun c xs z=>b c xs (a c xs z)
theorem aJ.kp{H H':Hp}(s:aJ H H'):dW H H':=fun b _ z=>s b _ z
theorem dW.put{H:Hp}{p:Addr}{o:HO}(n:∀xs,H p≠some (.tup xs)):dW H (upd H p o):=fun b xs z=>by
 by_cases e:b=p
 ·subst e; exact absurd z (n xs)
 ·rw[aC e]; exact z
theorem dW.putL{H:Hp}{p:Addr}{o:HO}{xs:List V}(n:H p=some (.lst xs)):dW H (upd H p o):=dW.put fun ys z=>by rw[n] at z; cases z
theorem dW.putD{H:Hp}{p:Addr}{o:HO}{xs:List (Key×V)}(n:H p=some (.dK xs)):dW H (upd H p o):=dW.put fun ys z=>by rw[n] at z; cases z
mutual
theorem At.kp{H H':Hp}(m:dW H H'):∀(d:PyData)(v:V),uH d=true->At H d v->At H' d v
 | .none,_,_,h=>by unfold At at h ⊢; exact h
 | .bool _,_,_,h=>by unfold At at h ⊢; exact h
 | .int _,_,_,h=>by unfold At at h ⊢; exact h
 | .str _,_,_,h=>by unfold At at h ⊢; exact h
 | .tuple ds,v,n,h=>by
  unfold At at h ⊢;obtain⟨a,ys,e,h1,h2⟩:=h;exact⟨a,ys,e,m _ _ h1,aj.kp m ds ys (by simpa[uH] using n) h2⟩
 | .list _,_,n,_=>by simp[uH] at n
 | .dict _,_,n,_=>by simp[uH] at n
theorem aj.kp{H H':Hp}(m:dW H H'):∀(ds:List PyData)(ys:List V),bG ds=true->aj H ds ys->aj H' ds ys
 | [],_,_,h=>by unfold aj at h ⊢; exact h
 | d::ds,ys,n,h=>by
  unfold aj at h ⊢;obtain⟨x,r,e,h1,h2⟩:=h;simp only[bG,DX] at n;exact⟨x,r,e,At.kp m d x n.1 h1,aj.kp m ds r n.2 h2⟩
end
theorem aj.nth{H:Hp}:∀{ds:List PyData}{ys:List V}{i:Nat}{d:PyData},aj H ds ys->ds[i]?=some d->∃y,ys[i]?=some y/\At H d y
 | [],_,_,_,_,e=>by cases e
 | d::ds,ys,i,d',h,e=>by
  unfold aj at h;obtain⟨x,r,rfl,h1,h2⟩:=h;cases i with
  | zero=>cases e; exact⟨x,rfl,h1⟩
  | succ i=>exact aj.nth (ds:=ds) (ys:=r) (i:=i) h2 e
theorem aj.snoc{H:Hp}{ds:List PyData}{ys:List V}{d:PyData}{y:V}(h:aj H ds ys)(a:At H d y):aj H (ds++[d]) (ys++[y]):=aj.append h (aj.cons a aj.nil)
def Fr(S:List Addr)(H H':Hp):Prop:=∀b o,H b=some o->b∉S->H' b=some o
theorem Fr.refl(S:List Addr)(H:Hp):Fr S H H:=fun _ _ z _=>z
theorem aJ.fr{H H':Hp}(s:aJ H H')(S:List Addr):Fr S H H':=fun b o z _=>s b o z
theorem Fr.trans{S:List Addr}{H H1 H2:Hp}(a:Fr S H H1)(b:Fr S H1 H2):Fr S H H2:=fun c o z n=>b c o (a c o z n) n
theorem Fr.sub{S T:List Addr}{H H':Hp}(a:Fr S H H')(h:∀b∈S,b∈T\/H b=none):Fr T H H':=fun b o z n=>a b o z fun hb=>(h b hb).elim n fun e=>by rw[e] at z; cases z
theorem Fr.put{S:List Addr}{H:Hp}{p:Addr}{o:HO}(h:p∈S):Fr S H (upd H p o):=fun b u z n=>by
 have e:b≠p:=fun e=>n (by rw[e]; exact h)
 rw[aC e]; exact z
theorem Fr.kp{S:List Addr}{H H':Hp}(a:Fr S H H')(n:∀b∈S,∀xs,H b≠some (.tup xs)):dW H H':=fun b xs z=>a b _ z fun hb=>n b hb xs z
def zK(ns:List Str)(vs:List V):List (Key×V):=(ns.map Sum.inr).zip vs
theorem lD{ns:List Str}{vs:List V}(h:ns.length=vs.length):(zK ns vs).length=ns.length:=by unfold zK; rw[List.length_zip,bZ]; omega
theorem Nv:∀{ns:List Str}{vs:List V}{i:Nat}{n:Str},ns.Nodup->ns[i]?=some n->ns.length=vs.length->gM (zK ns vs) (Sum.inr n:Key)=vs[i]?
 | [],_,_,_,_,h,_=>by cases h
 | a::ns,[],_,_,_,_,h=>by cases h
 | a::ns,v::vs,0,n,_,h,_=>by
  cases h;exact dI rfl
 | a::ns,v::vs,i+1,n,nd,h,l=>by
  have hn:a≠n:=fun z=>by
   subst z;exact(jK.mp nd).1 (dN h)
  show gM ((Sum.inr a,v)::zK ns vs) (Sum.inr n:Key)=_;unfold gM;rw[List.find?_cons_of_neg (by simpa using hn)]
  exact Nv (jK.mp nd).2 h (Nat.succ.inj l)
theorem Gp:∀{ns:List Str}{vs:List V}{n:Str},ns.length=vs.length->((zK ns vs).any fun kv=>decide (kv.1=(Sum.inr n:Key)))=decide (n∈ns)
 | [],_,_,_=>by simp[zK]
 | a::ns,[],_,h=>by cases h
 | a::ns,v::vs,n,l=>by
  show(((Sum.inr a,v)::zK ns vs).any _)=_;rw[wB,Gp (Nat.succ.inj l)];by_cases h:n=a
  ·subst h; simp
  ·have:¬a=n:=fun z=>h z.symm;simp[h,this]
theorem Ny:∀{ns:List Str}{vs:List V}{i:Nat}{n:Str}{u:V},ns.Nodup->ns[i]?=some n->ns.length=vs.length->((zK ns vs).map fun kv=>if kv.1=(Sum.inr n:Key) then(kv.1,u) else kv)=zK ns (vs.set i u)
 | [],_,_,_,_,_,h,_=>by cases h
 | a::ns,[],_,_,_,_,_,h=>by cases h
 | a::ns,v::vs,0,n,u,nd,h,l=>by
  cases h;show(((Sum.inr a,v)::zK ns vs).map _)=(Sum.inr a,u)::zK ns vs;rw[jk,aV rfl]
  congr 1
  have hn:=(jK.mp nd).1;rw[List.map_congr_left (g:=id),List.map_id];intro kv hkv;refine aN fun z=>hn ?_;have:=Ej hkv;rw[z] at this;simpa using this.1
 | a::ns,v::vs,i+1,n,u,nd,h,l=>by
  have hn:a≠n:=fun z=>by
   subst z;exact(jK.mp nd).1 (dN h)
  show(((Sum.inr a,v)::zK ns vs).map _)=(Sum.inr a,v)::zK ns (vs.set i u);rw[jk,aN (by simpa using hn),Ny (jK.mp nd).2 h (Nat.succ.inj l)]
theorem Wf{ns:List Str}{vs:List V}{i:Nat}{n:Str}{u:V}(nd:ns.Nodup)(h:ns[i]?=some n)(l:ns.length=vs.length):putK (zK ns vs) (Sum.inr n:Key) u=zK ns (vs.set i u):=by
 unfold putK;rw[aV (by rw[Gp l]; exact mU (dN h)),Ny nd h l]
theorem Nx{ns:List Str}{vs:List V}{n:Str}{u:V}(h:n∉ns)(l:ns.length=vs.length):putK (zK ns vs) (Sum.inr n:Key) u=zK (ns++[n]) (vs++[u]):=by
 unfold putK;rw[aN (by rw[Gp l]; simpa using h)]
 unfold zK;rw[gk,List.zip_append (by rw[bZ]; exact l)]
 rfl
theorem vo:∀(ns:List Str)(vs:List V)(ms:List Str)(us:List V),(ms++ns).Nodup->ms.length=us.length->ns.length=vs.length->jl (zK ms us) (zK ns vs)=zK (ms++ns) (us++vs)
 | [],vs,ms,us,_,_,l=>by
  cases vs with
  | nil=>rw[oX,oX]; rfl
  | cons=>cases l
 | a::ns,[],ms,us,_,_,l=>by cases l
 | a::ns,v::vs,ms,us,nd,h,l=>by
  have hn:a∉ms:=fun z=>by
   rw[qO] at nd;exact nd.2.2 a z a (eX ..) rfl
  show jl (putK (zK ms us) (Sum.inr a) v) (zK ns vs)=_;rw[Nx hn h,vo ns vs (ms++[a]) (us++[v]) (by rw[G5]; exact nd) (by simp[h]) (Nat.succ.inj l),G5,G5]
  rfl
theorem iV.z{H:Hp}{a:Addr}{ns:List Str}{vs:List V}{i:Nat}{n:Str}{v:V}(e:H a=some (.dK (zK ns vs)))(nd:ns.Nodup)(h:ns[i]?=some n)(l:ns.length=vs.length)(hv:vs[i]?=some v):iV H a (.str n) (some v):=by
 have:=iV.k (k:=(Sum.inr n:Key)) e;rw[Nv nd h l,hv] at this;exact this
theorem qz.z{H:Hp}{a:Addr}{ns:List Str}{vs:List V}{i:Nat}{n:Str}{v:V}(e:H a=some (.dK (zK ns vs)))(nd:ns.Nodup)(h:ns[i]?=some n)(l:ns.length=vs.length)(z:ns.length<=1000):qz H a (.str n) v (upd H a (.dK (zK ns (vs.set i v)))):=by
 have:=qz.k (k:=(Sum.inr n:Key)) (v:=v) e (aR (by rw[lD l]; exact z))
 rw[Wf nd h l] at this;exact this
theorem Q0{K:Frag}{nt:Nat}{g:TG}{js:List Nat}{a:Addr}{xs:List V}{tl tk tv:TE}{σ:St}{H:Hp}{Q:VK}(τ:Nat->St)(hτ:∀i,(τ i).length=nt)(hl:∀R:VK,R (.ref a) H->tl σ H R)(ha:H a=some (.lst xs))
  (h:∀acc,H acc=none->∃Pv:Nat->List (Key×V)->Hp->Prop,Pv 0 [] (upd H acc (.dK []))/\(∀i ys H',Pv i ys H'->H' a=some (.lst xs)) /\
   (∀i x ys H',xs[i]?=some x->Pv i ys H'->(∀R:St->Hp->Prop,R (τ i++bW js σ) H'->g x (List.replicate nt none++bW js σ) H' R)/\tk (τ i++bW js σ) H' fun y H4=>tv (τ i++bW js σ) H4 fun v H5=>∃k,y=kV k/\H5 acc=some (.dK ys)/\ys.length<sizeLine/\Pv (i+1) (putK ys k v) (upd H5 acc (.dK (putK ys k v))))/\∀ys H',Pv xs.length ys H'->Q (.ref acc) H'):vD nt js (nJ K tl) g tk tv σ H Q:=by
 refine hl _ ⟨a,rfl,⟨xs,cz.of ha⟩,fun acc hacc=>?_⟩;obtain⟨Pv,p0,pA,ps,pf⟩:=h acc hacc;refine⟨fun i m ys H2=>m=xs.length-i/\i<=xs.length/\Pv i ys H2,⟨_,rfl,eV _,p0⟩,?_⟩;rintro i m ys H2 ⟨rfl,hi,hP⟩;have ht:cz K H2 a xs:=cz.of (pA _ _ _ hP);by_cases hlt:i<xs.length
 ·refine .inr ⟨⟨xs,xs[i],ht,cN hlt⟩,fun x H3 y=>?_⟩;obtain⟨e1,y⟩:=y;subst e1;obtain⟨gg,tt⟩:=ps i x ys _ (y xs ht) hP;refine gg _ ⟨⟨?_,?_⟩,?_⟩
  ·rw[SN (by rw[hτ]; exact bc _),<- hτ i,xZ,Bf]
  ·rw[cF,cF,hτ,pX]
  have e:(fun(y:V)(H4:Hp)=>tv (τ i++bW js σ) H4 fun v H5=>∃k,y=kV k/\H5 acc=some (.dK ys)/\ys.length<sizeLine/\Pv (i+1) (putK ys k v) (upd H5 acc (.dK (putK ys k v))))=fun y H4=>tv (τ i++bW js σ) H4 fun v H5=>∃k,y=kV k/\H5 acc=some (.dK ys)/\ys.length<sizeLine/\∃m',m'<xs.length-i/\(m'=xs.length-(i+1)/\i+1<=xs.length/\Pv (i+1) (putK ys k v) (upd H5 acc (.dK (putK ys k v)))):=by
   funext y H4
   congr 1
   funext v H5
   exact propext ⟨fun⟨k,z0,z1,z2,z3⟩=>⟨k,z0,z1,z2,xs.length-(i+1),∅,rfl,hlt,z3⟩,fun⟨k,z0,z1,z2,_,_,_,_,z3⟩=>⟨k,z0,z1,z2,z3⟩⟩
  rw[e] at tt;exact tt
 ·have e:i=xs.length:=by omega
  subst e;exact .inl ⟨⟨xs,ht,bc _⟩,pf _ _ hP⟩
theorem b8{α:Type}{l:List α}{i:Nat}{x:α}(h:l[i]?=some x):l.take (i+1)=l.take i++[x]:=by
 rw[List.take_add_one,h]; rfl
theorem vg{K:Frag}{nt:Nat}{g:TG}{js:List Nat}{a:Addr}{xs:List V}{tl tk tv:TE}{σ:St}{H:Hp}{Q:VK}(ns:List Str)(ds:List PyData)(τ:Nat->St)(hτ:∀i,(τ i).length=nt)(hl:∀R:VK,R (.ref a) H->tl σ H R)(ha:H a=some (.lst xs))
  (nd:ns.Nodup) (ln:ns.length=xs.length) (ld:ds.length=xs.length) (hz:xs.length<=1000) (hn:bG ds=true)
  (step:∀i x n d H',xs[i]?=some x->ns[i]?=some n->ds[i]?=some d->aJ H H'->(∀R:St->Hp->Prop,R (τ i++bW js σ) H'->g x (List.replicate nt none++bW js σ) H' R)/\(∀R:VK,R (.str n) H'->tk (τ i++bW js σ) H' R)/\∀R:VK,(∀v H5,aJ H' H5->At H5 d v->R v H5)->tv (τ i++bW js σ) H' R)
  (fin:∀acc vs H',H acc=none->aJ H H'->H' acc=some (.dK (zK ns vs))->aj H' ds vs->ns.length=vs.length->Q (.ref acc) H'):vD nt js (nJ K tl) g tk tv σ H Q:=by
 refine Q0 τ hτ hl ha fun acc hacc=>?_;refine⟨fun i ys H2=>∃vs,ys=zK (ns.take i) vs/\(ns.take i).length=vs.length/\aj H2 (ds.take i) vs/\aJ H H2/\H2 acc=some (.dK ys),⟨[],rfl,rfl,aj.nil,aM hacc _,aB⟩,fun i ys H2 q=>?_,?_,?_⟩
 ·obtain⟨vs,_,_,_,s2,_⟩:=q;exact s2 _ _ ha
 ·rintro i x ys H2 hx ⟨vs,rfl,lv,av,s2,e2⟩;have hi:i<xs.length:=(iW.mp hx).1;have en:ns[i]?=some ns[i]:=cN ∅
  have ed:ds[i]?=some ds[i]:=cN ∅
  obtain⟨g1,g2,g3⟩:=step i x _ _ H2 hx en ed s2;refine⟨g1,g2 _ (g3 _ fun v H5 s5 a5=>⟨Sum.inr ns[i],rfl,s5 _ _ e2,aR ?_,vs++[v],?_,?_,?_,?_,aB⟩)⟩
  ·rw[lD lv,iJ]; omega
  ·rw[b8 en,Nx _ lv];intro z;rw[<- List.take_append_drop i ns,qO] at nd;exact nd.2.2 _ z _ (by rw[G8 ∅]; exact eX ..) rfl
  ·rw[b8 en,cF,cF,lv]; rfl
  ·rw[b8 ed];have k5:dW H2 (upd H5 acc (.dK (putK (zK (ns.take i) vs) (Sum.inr ns[i]) v))):=s5.kp.trans (dW.putD (s5 _ _ e2));have hn':=aW.mp hn;exact(aj.kp k5 _ _ (aW.mpr fun d hd=>hn' d (wy hd)) av).snoc (At.kp (dW.putD (s5 _ _ e2)) _ _ (hn' _ (sH _)) a5)
  ·intro b o z;rw[aC (fun e=>by rw[e,hacc] at z; cases z)]
   exact s5 _ _ (s2 _ _ z)
 ·rintro ys H2 ⟨vs,rfl,lv,av,s2,e2⟩;rw[show xs.length=ns.length from ln.symm,mV] at e2 lv;rw[show xs.length=ds.length from ld.symm,mV] at av;exact fin acc vs H2 hacc s2 e2 av lv
theorem lW{K:Frag}{nt:Nat}{g:TG}{js:List Nat}{a:Addr}{xs:List V}{tl te:TE}{σ:St}{H:Hp}{Q:VK}(ds:List PyData)(τ:Nat->St)(hτ:∀i,(τ i).length=nt)(hl:∀R:VK,R (.ref a) H->tl σ H R)(ha:H a=some (.lst xs))
  (ld:ds.length=xs.length) (hz:xs.length<=1000) (hn:bG ds=true)
  (step:∀i x d H',xs[i]?=some x->ds[i]?=some d->aJ H H'->(∀R:St->Hp->Prop,R (τ i++bW js σ) H'->g x (List.replicate nt none++bW js σ) H' R)/\∀R:VK,(∀v H5,aJ H' H5->At H5 d v->R v H5)->te (τ i++bW js σ) H' R)
  (fin:∀acc vs H',H acc=none->aJ H H'->H' acc=some (.lst vs)->aj H' ds vs->Q (.ref acc) H'):eN nt js (nJ K tl) g qG te σ H Q:=by
 refine Q6 τ hτ hl ha fun acc hacc=>?_;refine⟨fun i ys H2=>ys.length=i/\aj H2 (ds.take i) ys/\aJ H H2/\H2 acc=some (.lst ys),⟨rfl,aj.nil,aM hacc _,aB⟩,fun i ys H2 q=>q.2.2.1 _ _ ha,?_,?_⟩
 ·rintro i x ys H2 hx ⟨lv,av,s2,e2⟩;have hi:i<xs.length:=(iW.mp hx).1;have ed:ds[i]?=some ds[i]:=cN ∅
  obtain⟨g1,g3⟩:=step i x _ H2 hx ed s2;refine⟨g1,g3 _ fun v H5 s5 a5=>⟨s5 _ _ e2,aR ∅,by rw[cF,lv]; rfl,?_,?_,aB⟩⟩
  ·rw[b8 ed];have k5:dW H2 (upd H5 acc (.lst (ys++[v]))):=s5.kp.trans (dW.putL (s5 _ _ e2));have hn':=aW.mp hn;exact(aj.kp k5 _ _ (aW.mpr fun d hd=>hn' d (wy hd)) av).snoc (At.kp (dW.putL (s5 _ _ e2)) _ _ (hn' _ (sH _)) a5)
  ·intro b o z;rw[aC (fun e=>by rw[e,hacc] at z; cases z)]
   exact s5 _ _ (s2 _ _ z)
 ·rintro ys H2 ⟨lv,av,s2,e2⟩;rw[show xs.length=ds.length from ld.symm,mV] at av;exact fin acc ys H2 hacc s2 e2 av
theorem oN{K:Frag}{js:List Nat}{a:Addr}{xs:List V}{tl te:TE}{σ:St}{H:Hp}{Q:VK}(ds:List PyData)(hl:∀R:VK,R (.ref a) H->tl σ H R)(ha:H a=some (.lst xs))
  (ld:ds.length=xs.length) (hz:xs.length<=1000) (hn:bG ds=true)
  (step:∀(i:Nat) x d H',xs[i]?=some x->ds[i]?=some d->aJ H H'->∀R:VK,(∀v H5,aJ H' H5->At H5 d v->R v H5)->te (some x::bW js σ) H' R)
  (fin:∀acc vs H',H acc=none->aJ H H'->H' acc=some (.lst vs)->aj H' ds vs->Q (.ref acc) H'):iu js (nJ K tl) te σ H Q:=by
 refine hl _ ⟨a,rfl,⟨xs,cz.of ha⟩,fun acc hacc=>?_⟩;refine⟨fun i m ys H2=>m=xs.length-i/\i<=xs.length/\ys.length=i/\aj H2 (ds.take i) ys/\aJ H H2/\H2 acc=some (.lst ys),⟨_,rfl,eV _,rfl,aj.nil,aM hacc _,aB⟩,?_⟩;rintro i m ys H2 ⟨rfl,hi,lv,av,s2,e2⟩;have ht:cz K H2 a xs:=cz.of (s2 _ _ ha);by_cases hlt:i<xs.length
 ·refine .inr ⟨⟨xs,xs[i],ht,cN hlt⟩,fun x H3 y=>?_⟩;obtain⟨e1,y⟩:=y;subst e1;have ed:ds[i]?=some ds[i]:=cN ∅
  refine step i x _ _ (y xs ht) ed s2 _ fun v H5 s5 a5=>⟨s5 _ _ e2,aR ∅,xs.length-(i+1),∅,rfl,hlt,by rw[cF,lv]; rfl,?_,?_,aB⟩
  ·rw[b8 ed];have k5:dW H3 (upd H5 acc (.lst (ys++[v]))):=s5.kp.trans (dW.putL (s5 _ _ e2));have hn':=aW.mp hn;exact(aj.kp k5 _ _ (aW.mpr fun d hd=>hn' d (wy hd)) av).snoc (At.kp (dW.putL (s5 _ _ e2)) _ _ (hn' _ (sH _)) a5)
  ·intro b o z;rw[aC (fun e=>by rw[e,hacc] at z; cases z)]
   exact s5 _ _ (s2 _ _ z)
 ·have e:i=xs.length:=by omega
  subst e;rw[show xs.length=ds.length from ld.symm,mV] at av;exact .inl ⟨⟨xs,ht,bc _⟩,fin acc ys H2 hacc s2 e2 av⟩
theorem UT{K:Frag}{js:List Nat}{d:Addr}{kvs:List (Key×V)}{tl te:TE}{σ:St}{H:Hp}{Q:VK}(ms:List Int)(hl:∀R:VK,R (.ref d) H->tl σ H R)(ha:H d=some (.dK kvs))(ld:ms.length=kvs.length)(hz:kvs.length<=1000)
  (step:∀(i:Nat) k x m H',kvs[i]?=some (k,x)->ms[i]?=some m->dW H H'->∀R:VK,(∀H5,aJ H' H5->R (.int m) H5)->te (some x::bW js σ) H' R)
  (fin:∀acc H',H acc=none->aJ H H'->H' acc=some (.lst (ms.map V.int))->Q (.ref acc) H'):Oe (iu js (VN K tl) te) σ H Q:=by
 refine hl _ ⟨d,kvs,rfl,ha,fun o acc hacc=>?_⟩;have nd:acc≠d:=fun z=>by rw[z,aB] at hacc; cases hacc
 rw[aC nd] at hacc;refine⟨fun i m ys H2=>m=kvs.length-i/\i<=kvs.length/\ys=(ms.take i).map V.int/\H2 acc=some (.lst ys)/\H2 d=some (.kE o (.dK kvs))/\∀b u,H b=some u->b≠d->H2 b=some u,⟨_,rfl,eV _,rfl,aB,by rw[aC nd.symm,aB],fun b u z n=>by rw[aC (fun e=>by rw[e,hacc] at z; cases z),aC n]; exact z⟩,?_⟩
 rintro i m ys H2 ⟨rfl,hi,rfl,e2,f2,k2⟩;by_cases hlt:i<kvs.length
 ·refine .inr ⟨⟨f2,hlt⟩,fun x H3 y=>?_⟩;obtain⟨e1,k,hx⟩:=y;subst e1;have em:ms[i]?=some ms[i]:=cN ∅
  refine step i k x _ _ hx em (fun b xs z=>k2 b _ z fun e=>by rw[e,ha] at z; cases z) _ fun H5 s5=>⟨s5 _ _ e2,aR (by rw[bZ,iJ]; omega),kvs.length-(i+1),∅,rfl,hlt,?_,aB,?_,?_⟩
  ·rw[b8 em,gk]; rfl
  ·rw[aC nd.symm]; exact s5 _ _ f2
  ·intro b u z n;rw[aC (fun e=>by rw[e,hacc] at z; cases z)]
   exact s5 _ _ (k2 b u z n)
 ·have e:i=kvs.length:=by omega
  subst e;refine .inl ⟨⟨f2,bc _⟩,d,kvs,o,ha,f2,?_⟩;refine fin acc _ hacc (fun b u z=>?_) (by rw[aC nd,e2,<- ld,mV])
  by_cases e:b=d
  ·subst e; rw[aB,<- z,ha]
  ·rw[aC e]; exact k2 b u z e
def aas:V->List V->Hp->VK->Prop:=fun x xs H Q=>∃(p:Addr)(ns:List Str)(i:Str)(j:Nat),x=.ref p/\H p=some (.lst (ns.map V.str))/\xs=[.str i]/\ns.length<=1000/\ns.Nodup/\ns[j]?=some i/\Q (.int (j:Nat)) H
def Jc(i:Str):AA->Bool
 | .str a _=>decide (a=i)
 | _=>false
theorem qW{ns:List Str}(h:ns.Nodup){i j:Nat}{x:Str}(a:ns[i]?=some x)(b:ns[j]?=some x):i=j:=by
 obtain⟨ha,ea⟩:=iW.mp a;obtain⟨hb,eb⟩:=iW.mp b;rcases Nat.lt_trichotomy i j with c | c | c
 ·exact absurd (ea.trans eb.symm) (List.pairwise_iff_getElem.mp h i j ha hb c)
 ·exact c
 ·exact absurd (eb.trans ea.symm) (List.pairwise_iff_getElem.mp h j i hb ha c)
section
variable{X:Cx}
theorem wU:MtR X "list.index" aas:=by
 intro ae s σ H x xs v us Q I rx rv h;obtain⟨p,ns,i,j,rfl,hp,rfl,hl,hnd,hj,q⟩:=h;cases rx;obtain⟨u,rfl,tk,rfl⟩:=rv.one;obtain⟨_,its,n,r,e⟩:=I.hok p _ hp
 have back:∀{m:Nat}{u:AA},its[m]?=some u->∃a k,ns[m]?=some a/\u=.str a k:=fun {m u} hm=>by
  obtain⟨x,h1,h2⟩:=Ky r hm;rw[cD] at h1;cases ha:ns[m]? with
  | none=>rw[ha] at h1; cases h1
  | some a=>
   rw[ha] at h1;cases h1;obtain⟨k,rfl⟩:=(h2:∃tk,u=Value.str a tk);exact⟨a,k,rfl,rfl⟩
 have ee:∀y,y∈its.toArray->SeqAt.EqAt X.A.in1 s y (.str i tk) (Jc i y):=fun y hy=>by
  obtain⟨m,hm⟩:=List.mem_iff_getElem?.mp (List.mem_toArray.mp hy);obtain⟨a,k,_,rfl⟩:=back hm;exact SeqAt.EqAt.str_str _ _ _ _
 obtain⟨u,hu,k,rfl⟩:=Dn r (x:=.str i) (by rw[cD,hj]; rfl)
 have hlt:j<its.length:=(iW.mp hu).1;have hlen:its.length=ns.length:=by rw[<- r.length,bZ]
 refine call_meets PySem.F.slot_list_index ⟨_,e,rfl⟩ PySem.F.entry_list_index (PySem.F.args_list_index_2 _ _) (SeqAt.list_indexAt p its.toArray n none #[] (.str i tk) (Jc i) j (by simpa using hlt) ∅ ?_ ?_) ⟨e,ee,?_⟩
 ·have:=(iW.mp hu).2;show Jc i its[j]=true;rw[this];show decide (i=i)=true;simp
 ·intro m hm h;have hm':m<its.length:=by simpa using hm
  obtain⟨a,k2,h1,h2⟩:=back (cN hm');show Jc i its[m]=false;rw[h2];show decide (a=i)=false;refine j4 fun z=>?_;subst z;have:=qW hnd h1 hj;omega
 ·exact⟨.int (j:Nat),H,I.tok _,⟨_,rfl⟩,q⟩
end
open SetTable (Probe runEnd leap turns bits)
def adv(m:Nat)(p:Probe):Probe:=
 if p.more>0 then { p with j:=p.j+1,more:=p.more-1 } else
 { p with j:=(leap m p.i p.perturb).1,more:=runEnd m (leap m p.i p.perturb).1-(leap m p.i p.perturb).1,i:=(leap m p.i p.perturb).1,perturb:=(leap m p.i p.perturb).2 }
def itr(m:Nat):Nat->Probe->Probe
 | 0,p=>p
 | n+1,p=>itr m n (adv m p)
structure WP(m:Nat)(p:Probe):Prop where
 i:p.i<=m
 j:p.j+p.more=runEnd m p.i
 q:p.perturb<2 ^ 64
 d:p.dummy=none
 ij:p.i<=p.j
def jmp(m i q:Nat):Probe:={ j:=i,more:=runEnd m i-i,i:=i,perturb:=q,dummy:=none }
def abt(xs:Array Nat):Prop:=∀(a b x y:Nat),xs[a]?=some x->xs[b]?=some y->a<b->x<y
end _L
namespace _L
open PySem PySem.Spec PyProof.Rows
open SetTable (Probe runEnd leap turns bits)
def way(m:Nat)(h:Int)(n:Nat):Nat:=(itr m n (jmp m (bits h % (m+1)) (bits h))).j
def Path(m:Nat)(occ:Nat->Prop)(h:Int)(j:Nat):Prop:=∃n,way m h n=j/\∀n',n'<n->occ (way m h n')
structure TbI(t:SetTable)(hs:List Int):Prop where
 dm:t.dummies = #[]
 ri:abt t.place
 sz:t.place.size=hs.length
 le:∀i j:Nat,t.place[i]?=some j->j<=t.mask
 pw:∃k,3<=k/\k<=12/\t.mask+1=2 ^ k
 fl:5*hs.length<3*t.mask
 pa:∀(i:Nat)(h:Int)(j:Nat),hs[i]?=some h->t.place[i]?=some j->Path t.mask (fun y=>∃i:Nat,t.place[i]?=some y) h j
structure TbJ(t:SetTable)(hs:List Int):Prop where
 dm:t.dummies = #[]
 ri:abt t.place
 sz:t.place.size=hs.length
 le:∀i j:Nat,t.place[i]?=some j->j<=t.mask
 pw:∃k,3<=k/\k<=12/\t.mask+1=2 ^ k
 fl:hs.length<=t.mask
 pa:∀(i:Nat)(h:Int)(j:Nat),hs[i]?=some h->t.place[i]?=some j->Path t.mask (fun y=>∃i:Nat,t.place[i]?=some y) h j
end _L
namespace _L
open PySem PySem.Spec PyProof.Rows
open SetTable (Probe runEnd leap turns bits)
structure OW(m:Nat)(ow:Array (Option Nat))(hs:List Int):Prop where
 sz:ow.size=m+1
 ct:ow.toList.countP Option.isSome=hs.length
 at_:∀(l:Nat)(h:Int),hs[l]?=some h->∃j,j<=m/\ow[j]?=some (some l)/\Path m (fun y=>∃l,ow[y]?=some (some l)) h j
 lt:∀j l:Nat,ow[j]?=some (some l)->l<hs.length
 inj:∀j j' l:Nat,ow[j]?=some (some l)->ow[j']?=some (some l)->j=j'
theorem getD_none{ow:Array (Option Nat)}{j:Nat}(h:ow.getD j (some 0)=none):ow[j]?=some none:=by
 rw[Array.getD_eq_getD_getElem?] at h;cases e:ow[j]? with
 | none=>rw[e] at h; cases h
 | some o=>rw[e] at h; exact lJ some h
end _L
namespace _L
open PySem PySem.Spec PyProof.Rows
open SetTable (Probe runEnd leap turns bits)
section
variable{prog:AC}{w:World}{A:Around}{E:AA->AB->Prop}{s:AB}
def skE(x:PyData×Addr):Int×AA:=(QH x.1,.ref x.2)
structure SkI(h:Heap)(a:Addr)(o:Obj)(es:Array (Int×AA))(ep:Nat)(t:SetTable)(xs:List (PyData×Addr)):Prop where
 get:h.get? a=some o
 ex:o.ExactSet
 dt:o.data=.set es ep t
 es:es.toList=xs.map skE
 ti:TbI t (xs.map fun x=>QH x.1)
 nd:(xs.map (·.1)).Nodup
end
end _L
namespace _L
open PySem PySem.Spec PyProof.Rows
open SetTable (Probe runEnd leap turns bits)
section
variable{prog:AC}{w:World}{A:Around}{E:AA->AB->Prop}{s:AB}
end
section
variable{X:Cx}{ae:List (Addr×Obj)}{σ:St}{H:Hp}{s:AB}{a:Addr}{ks:List PyData}
end
end _L
namespace _L
open PySem PySem.Spec PyProof.Rows
section
variable{X:Cx}{ae:List (Addr×Obj)}{σ:St}{H:Hp}{s:AB}{a:Addr}{ks:List PyData}
end
section
variable{X:Cx}
end
def gG(acc kvs:List (Key×V)):List (Key×V):=kvs.foldl (fun a p=>putK a p.1 p.2) acc
structure C_(H:Hp)(xs:List V)(kvs:List (Key×V)):Prop where
 n:xs.length=kvs.length
 p:∀(i:Nat)(x:V)(q:Key×V),xs[i]?=some x->kvs[i]?=some q->∃t,x=.ref t/\H t=some (.tup [kV q.1,q.2])
section
variable{X:Cx}{ae:List (Addr×Obj)}{σ:St}
theorem Kz{p it l:Addr}{xs:List V}{kvs:List (Key×V)}:∀(k i:Nat)(H:Hp)(s:AB)(A:Around)(acc:List (Key×V))(R:Result->AB->Prop),xs.length-i=k->i<=xs.length->xs.length<=1000->A.handled=none->A.units+61<cLine->Inv X ae σ H s->H p=some (.dK acc)->acc.length<=i->H l=some (.lst xs)->C_ H xs kvs->s.heap.IsListIter it l i->eE X ae H it ->
  (∀H' s',Inv X ae σ H' s'->H'=upd H p (.dK (gG acc (kvs.drop i)))->R (.ok (.ret .none)) s') ->
  wpAny (model X.prog X.w) A.in1 (Builtin.«dict.update.loop» ⟨[.ref p,.ref it,rawInt i,.none],[]⟩) (fun fin s'=>match fin with | .done f=>R (.ok f) s' | .again c'=>c'.quiet=true/\codeAny (model X.prog X.w) A c' R s') (fun e s'=>R (.error e) s') s:=by
 intro k
 induction k with
 | zero=>
  intro i H s A acc R hk hi hz hh hu I n hacc hl P hit fp q;have ei:i=xs.length:=by omega
  obtain⟨_,its,m,r,e⟩:=I.hok l _ hl;have hL:s.heap.IsList l its.toArray:=⟨_,e,rfl,_,rfl⟩;have hx:its.toArray[i]?=none:=by rw[List.getElem?_toArray,Pk,<- r.length]; omega
  unfold Builtin.«dict.update.loop»;refine aL (wpAny_pyNext_list_end hh hit hL hx fun h' ex=>?_);dsimp only;unfold Builtin.Dict.addKeywords
  wp_walk
  have I':Inv X ae σ H { s with heap:=h' }:=I.turned (it:=it) (t':=s.toks) (fun b o nb eb=>ex b o nb eb) fp.1 fp.2.1 fp.2.2.2.1 fp.2.2.2.2.1 fp.2.2.2.2.2
  refine q H _ I' ?_;rw[ei,P.n,xZ]
  funext b
  by_cases z:b=p
  ·rw[z,aB,n]; rfl
  ·rw[aC z]
 | succ k ih=>
  intro i H s A acc R hk hi hz hh hu I n hacc hl P hit fp q;obtain⟨_,its,m,r,e⟩:=I.hok l _ hl;have hL:s.heap.IsList l its.toArray:=⟨_,e,rfl,_,rfl⟩;have hxl:i<xs.length:=by omega
  obtain⟨u,hu1,ru⟩:=Dn r (cN hxl);have hkl:i<kvs.length:=by rw[<- P.n]; exact hxl
  have hdr:kvs.drop i=kvs[i]::kvs.drop (i+1):=G8 hkl;obtain⟨t,et,ht⟩:=P.p i _ _ (cN hxl) (cN hkl);generalize kvs[i]=kq at hdr ht;rw[et] at ru;cases ru;unfold Builtin.«dict.update.loop»;refine aL (wpAny_pyNext_list_item hit hL (by rw[List.getElem?_toArray]; exact hu1) fun h' hit' sb=>?_)
  have I':Inv X ae σ H { s with heap:=h' }:=I.turned (it:=it) (t':=s.toks) (fun b o nb eb=>(sb.2 b nb).trans eb) fp.1 fp.2.1 fp.2.2.2.1 fp.2.2.2.2.1 fp.2.2.2.2.2
  obtain⟨_,ts,rt,⟨cls,dd,data,sl⟩,e1,hc,m1,hd⟩:=I'.hok t _ ht;simp only at hc hd;subst hc hd;obtain⟨w0,w1,rfl,r0,r1⟩:=rt.two;dsimp only;have hT:({ s with heap:=h' }:AB).TypeIs (.ref t) "tuple" := ⟨_,e1,rfl⟩
  refine aL (kY ?_);unfold Builtin.Dict.pairItems;refine aL (wC (aL (Bd hT ?_)));rw[aV ⋯]
  refine aL (oW e1 rfl (bL ?_));obtain⟨z,hd,vs,rel,UG⟩:=rB I'.hok n;have hz':vs.length<=sizeLine:=by rw[<- rel.length]; exact z
  have hlp:=fY acc kq.1 kq.2;refine kY (wpAny_dictSet_pairs (hsz:=hz') (wZ (P:=X.prog) (w:=X.w) r0) UG fun h2 dd2 hs=>?_);have he:∃q,h2.get? p=some q:=let ⟨q,_,_,hq,_⟩:=dd2; ⟨q,hq⟩;have I2:=oK (ob:=.dK (putK acc kq.1 kq.2)) (t':=s.toks+1) I' (by rw[n]; exact True.intro) hs he (Cu (lK (aR ∅)) hd (rel.put kq.1 r1) dd2)
  have npH:∀c,H c=none->c≠p:=fun c hc z=>by rw[z,n] at hc; cases hc
  have nit:=npH it fp.1
  have tup:∀c zs,H c=some (.tup zs)->upd H p (.dK (putK acc kq.1 kq.2)) c=some (.tup zs):=fun c zs hc=>by
   rw[aC (fun z=>by rw[z,n] at hc; cases hc)]; exact hc
  refine bL ⟨plainId_quiet fW _,codeAny_builtin ou ?_⟩
  ·rw[Around.under_plainId fW _];refine ih (i+1) _ _ A (putK acc kq.1 kq.2) R ∅ ∅ hz hh hu I2 aB ?_ ?_ ⟨P.n,fun j x q' h1 h2=>?_⟩ ?_ ⟨?_,fp.2⟩ ?_
   ·omega
   ·rw[aC (fun z=>by rw[z,n] at hl; cases hl)]; exact hl
   ·obtain⟨t2,a1,a2⟩:=P.p j x q' h1 h2;exact⟨t2,a1,tup _ _ a2⟩
   ·exact Heap.IsListIter.at hit' fun o eo=>(hs.2 _ nit).trans eo
   ·rw[aC nit]; exact fp.1
   ·rintro H' s' J1 rfl;refine q _ s' J1 ?_;rw[hdr,uO]; rfl
end
section
variable{X:Cx}
theorem qp(hu:X.A.units+64<cLine)(hc:X.calm=true):cJ X (.type "dict") (fun vs H Q=>∃(l:Addr)(xs:List V)(kvs:List (Key×V)),vs=[.ref l]/\H l=some (.lst xs)/\xs.length<=1000/\C_ H xs kvs/\∀p,H p=none->Q (.ref p) (upd H p (.dK (gG [] kvs)))):=by
 symm;intro vs us Q I rv h;obtain⟨l,xs,kvs,rfl,hl,hz,P,q⟩:=h;obtain⟨u,rfl,ru⟩:=rv.one;cases ru;have hh:X.A.handled=none:=I.ok.hd hc;have hf:=I.hok.fresh (bc s.heap.objs.size);have I1:=I.laid (a:=s.heap.objs.size) (o:=.dK []) (t':=s.toks) (fun _ _ q=>cU _ q) (bc _) (xu s.heap I.big);have n1:upd H s.heap.objs.size (.dK []) s.heap.objs.size=some (.dK []):=aB;have s1:=aM hf (.dK []);refine callType_codes (Q₁:=fun obj s₁=>obj=.ref s.heap.objs.size/\s₁={ s with heap:=s.heap.push { cls:=.type "dict",data:=.dict #[] } }) F.kt_called_dict (F.kt_typeCall_dict_1 _) F.entry_dict_init (kt_code_dict_new _ ⟨rfl,rfl⟩) ?_
 rintro obj s₁ ⟨rfl,rfl⟩;have hT:=(Qx I1 (.inl ⟨[],.inl n1⟩)).1;refine⟨hT,F.args_dict_init_2 _ _,?_⟩;unfold Builtin.«dict.__init__»;refine aL ?_;unfold Builtin.Dict.selfAndRest;refine aL (wpAny_notOrdered_dict hT ?_);show wpAny _ _ (pure (s.heap.objs.size,[Value.ref l])) _ _ _;refine bL ?_;show wpAny _ _ (Builtin.Dict.updateFrom "dict.__init__" s.heap.objs.size (.ref l) [] .none) _ _ _;unfold Builtin.Dict.updateFrom;obtain⟨_,its,m,r,e⟩:=I1.hok l _ (s1 _ _ hl);refine aL (Bd ⟨_,e,rfl⟩ ?_);rw[aV ⋯]
 refine aL (L_ e hh fun h' tk k=>?_);rw[aV ⋯]
 refine aL (ur ?_);have I2:=I1.kept (t':=tk) k;have hL:h'.IsList l its.toArray:=⟨_,k _ _ e,rfl,_,rfl⟩;refine aL (DY hL ?_);have I3:=I2.kept (t':=tk) (h':=h'.push { cls:=.type "list_iterator",data:=.fields #[.ref l,.int 0 0] }) fun b o eb=>cU _ eb;have fi:=I2.hok.fresh (bc h'.objs.size);refine bL ⟨plainId_quiet fW _,codeAny_builtin ou ?_⟩;rw[Around.under_plainId fW _];refine Kz (kvs:=kvs) xs.length 0 _ _ X.A.in1 [] _ ∅ (eV _) hz hh (by show X.A.units+1+61<cLine; omega) I3 n1 (eV _) (s1 _ _ hl) ⟨P.n,fun j x q' h1 h2=>?_⟩ ⟨_,cI _ rfl,rfl,rfl⟩ (I2.nR (bc _) fi) ?_
 ·obtain⟨t2,a1,a2⟩:=P.p j x q' h1 h2;exact⟨t2,a1,s1 _ _ a2⟩
 ·rintro H' s' J1 rfl;rw[uO] at J1;exact⟨rfl,.ref s.heap.objs.size,_,J1,rfl,q _ hf⟩
end
end _L
namespace _L
open PySem PySem.Spec PyProof.Rows PyProof
section
variable{prog:AC}{w:World}{A:Around}{E:AA->AB->Prop}
end
section
variable{X:Cx}{pos:Pos}
end
end _L
namespace _L
open PySem PySem.Spec PyProof.Rows PySem.SeqAt
section
variable{A:Around}{s:AB}
end
section
variable{X:Cx}
end
structure Wt(D M:Nat)(d:PyData):Prop where
 can:d.showable=true
 len:d.shown.length<=M
 dep:d.depth<=D
structure agq(D M:Nat)(ds:List PyData):Prop where
 can:PyData.showableAll ds=true
 len:((PyData.shownAll ds).map (·.length)).sum+2*(PyData.shownAll ds).length<=M
 dep:PyData.depthAll ds<=D
def nw(H H':Hp):Hp:=fun b=>if H b=none then(match H' b with
 | some (.lst xs)=>if b=sysModules then none else some (.lst xs)
 | o=>o) else none
section
variable{H H':Hp}{b:Addr}{o:HO}
end
section
variable{X:Cx}
end
end _L
namespace _L
open PySem PySem.Spec PyProof.Rows PyProof
section
variable{X:Cx}
end
end _L
namespace _L
open PySem PySem.PyData
end _L
namespace _L
open PySem
structure Tps(H:Hp)(as:List Addr)(N:Nat):Prop where
 tp:∀a∈as,∃n,n<=N/\Tp H a n
end _L
namespace _L
open PySem
end _L
namespace _L
open PySem PySem.Spec PyProof.Rows
section
variable{prog:AC}{w:World}{A:Around}{E:AA->AB->Prop}{s:AB}{knd:KeyKind prog w Key}{d:Addr}{kvs:List (Key×AA)}
theorem Mh{Q:Bool->AB->Prop}(hd:(d==sysModules)=false)(hm:s.heap.DictOf knd d kvs)(hlen:kvs.length<=2 ^ 20)
  (h':∀b,Q b s) (h:∀b,Q b { s with toks:=s.toks+1+1 }):wpAny (model prog w) A (Builtin.List.listLengthHint (.ref d)) Q E s:=by
 unfold Builtin.List.listLengthHint;refine aL (wpAny_specialOf hm.typeIs F.slot_dict_len.lookup ?_);generalize hid:("dict.__len__" : String)=id0
 wp_delta
 rw[show splitId id0=some ("dict","__len__") from by subst hid; decide +kernel]
 subst hid;refine aL (wpAny_isInstance (T:="dict") (b:=true) hm.typeIs (by rw[isSubtype_type]; kernel_rfl) ?_)
 refine Em (fun hab=>absurd hab ⋯) (fun _=>?_)
 have hf:(kvs.length:Int)<2 ^ 63:=by omega
 have htl:Builtin.List.listTooLong ((kvs.length:Int).toNat)=false:=by simp[Builtin.List.listTooLong,sizeLine]; omega
 refine Em (fun _=>?_) (fun _=>?_)
 ·refine aL (Bd hm.typeIs ?_);show wpAny _ _ (pure false) _ _ _;exact bL (h' _)
 ·refine Em (fun _=>?_) (fun hab=>absurd rfl hab);refine aL (ur ?_);refine aL (Ed (call_len_dict hd hm hf ?_));refine aL (m:=asInt? _) (bL ?_);exact Em (fun hab=>absurd hab (by rw[htl]; decide)) (fun _=>bL (h _))
theorem Fw{R:Result->AB->Prop}{ep:Nat}(hh:A.handled=none)(hd:(d==sysModules)=false)(hm:s.heap.DictAt knd d kvs ep)(hlen:kvs.length<=2 ^ 20)(S:Addr)(res:AA)(c₀:Nat)(hS:s.heap.get? S=some { cls:=.type "list",data:=.seq #[] c₀ })
  (hR:∀h' tk acc' c',(∀b o,b≠S->s.heap.get? b=some o->h'.get? b=some o)->h'.get? S=some { cls:=.type "list",dict:=none,data:=.seq acc' c',slots:=#[] } ->
   ItemsOf (fun i v=>∃k x,kvs[i]?=some (k,x)/\knd.is k v=true) acc' kvs.length->R (.ok (.ret res)) { s with heap:=h',toks:=tk }) :
  wpAny (model prog w) A.in1 (Builtin.List.listExtendWith (.ref S) (.ref d) res)
   (fun fin s'=>match fin with | .done f=>R (.ok f) s' | .again c'=>c'.quiet=true/\codeAny (model prog w) A c' R s') (fun e s'=>R (.error e) s') s:=by
 have hSd:S≠d:=fun e=>by
  obtain⟨o,es,ho,hc,hdat,_⟩:=hm;rw[<- e,hS] at ho;cases ho;cases hdat
 have hSlt:S<s.heap.objs.size:=bI hS;have hSI:S≠s.heap.objs.size:=cZ hSlt;have hdI:d≠s.heap.objs.size:=cZ hm.lt_size
 have hSf:S∉[s.heap.objs.size,d]:=fun hm=>by
  rcases bK.mp hm with h | h
  ·exact hSI h
  ·exact hSd (dM.mp h)
 have W:=(Walks.dictKeys (prog:=prog) (w:=w) (A:=A.in1) (knd:=knd) hh s.heap.objs.size d hdI kvs ep).toS;have key:∀(h:Heap)(c₁ tk:Nat),h.IsKeyIter s.heap.objs.size d 0 kvs.length ep->h.DictAt knd d kvs ep->(∀b o,b≠S->s.heap.get? b=some o->h.get? b=some o) ->
   h.get? S=some { cls:=.type "list",data:=.seq #[] c₁ }->codeAny (model prog w) A (.builtin "list.extend.loop" ⟨[.ref S,.ref s.heap.objs.size,res],[]⟩) R { s with heap:=h,toks:=tk }:=by
  intro h c₁ tk hit hda hk hS₁;refine codeAny_extend_loopS W (by rw[sizeLine_eq]; omega) S hSf res kvs.length 0 _ #[] c₁ rfl (eV _) ⟨hit,hda⟩ hS₁ (ItemsOf.nil _) fun s' acc' c' hm hS' hacc=>?_
  rw[Moved.eq_with hm];refine hR s'.heap s'.toks acc' c' (fun b o hb e=>hm.heap b o (fun hmem=>?_) (hk b o hb e)) hS' hacc;rcases bK.mp hmem with e' | hmem
  ·exact hb e'
  ·exact absurd (bI e) (by rw[dM.mp hmem]; exact pU _)
 unfold Builtin.List.listExtendWith;refine aL (Bd (T:="dict") hm.dictOf.typeIs ?_);have h1:Builtin.List.listSameRef (.ref S) (.ref d)=false:=by simp[Builtin.List.listSameRef,hSd]
 have h2:(Value.type "dict" == Value.type "list")=false:=by decide
 have h3:(Value.type "dict" == Value.type "tuple")=false:=by decide
 simp only[h1,h2,h3,Bool.or_false,x_,if_false];refine aL (wpAny_pyIter_dict hd hm ?_);have hit₁:(s.heap.push { cls:=.type "dict_keyiterator",data:=.fields #[.ref d,.int 0 0,.int kvs.length 0,.int ep 0] }).IsKeyIter s.heap.objs.size d 0 kvs.length ep:=⟨_,cI _ rfl,rfl,rfl⟩;have Hw:=hm.push { cls:=.type "dict_keyiterator",data:=.fields #[.ref d,.int 0 0,.int kvs.length 0,.int ep 0] };have hS₁:=cU { cls:=.type "dict_keyiterator",data:=.fields #[.ref d,.int 0 0,.int kvs.length 0,.int ep 0] } hS;refine aL (kY (Mh hd Hw.dictOf hlen (fun b=>?_) (fun b=>?_)))
 all_goals
  refine Em (fun _=>?_) (fun _=>bL ⟨plainId_quiet F.plain_extend_loop _,key _ c₀ _ hit₁ Hw (fun b o _ e=>cU _ e) hS₁⟩);refine aL (ur ?_);refine aL ?_;show wpAny _ _ (updateSeq S (·.push .none) >>= fun _=>updateSeq S (·.pop)) _ _ _;refine aL (zE hS₁ rfl ?_);have hS₂:=ux (Obj.mapSeq (·.push Value.none)) hS₁ rfl;refine zE (hz:=by seq_fits) hS₂ rfl ?_
  have hS₃:=ux (Obj.mapSeq (·.pop)) hS₂ rfl;refine bL ⟨plainId_quiet F.plain_extend_loop _,key _ _ _ ?_ ?_ (fun b o hb e=>?_) hS₃⟩
  ·exact hit₁.at fun o e=>(kZ _ _ hSI).trans ((kZ _ _ hSI).trans e)
  ·exact Hw.at' fun o e=>(kZ _ _ hSd).trans ((kZ _ _ hSd).trans e)
  ·exact(kZ _ _ (Ne.symm hb)).trans ((kZ _ _ (Ne.symm hb)).trans (cU _ e))
theorem list_dict{Q:AA->AB->Prop}{ep:Nat}(hh:A.handled=none)(hd:(d==sysModules)=false)(hm:s.heap.DictAt knd d kvs ep)(hlen:kvs.length<=2 ^ 20)
  (hQ:∀h' tk acc' c',(∀b o,s.heap.get? b=some o->h'.get? b=some o) ->
   h'.get? s.heap.objs.size=some { cls:=.type "list",dict:=none,data:=.seq acc' c',slots:=#[] }->ItemsOf (fun i v=>∃k x,kvs[i]?=some (k,x)/\knd.is k v=true) acc' kvs.length->Q (.ref s.heap.objs.size) { s with heap:=h',toks:=tk }) :
  wpAny (model prog w) A (call (.type "list") [.ref d]) Q E s:=by
 refine callType_codes (Q₁:=fun obj s₁=>obj=.ref s.heap.objs.size/\s₁={ s with heap:=s.heap.push { cls:=.type "list",data:=.seq #[] } }) F.called_list (F.typeCall_list_1 _) F.entry_list_init
  (code_list_new _ ⟨rfl,rfl⟩) fun obj s₁ h₁=>?_
 obtain⟨rfl,rfl⟩:=h₁;have hS:(s.heap.push { cls:=.type "list",data:=.seq #[] }).get? s.heap.objs.size=some { cls:=.type "list",data:=.seq #[] }:=cI _ rfl;refine⟨⟨_,hS,rfl⟩,F.args_list_init_2 _ _,?_⟩;show wpAny _ _ (do let old <- Builtin.List.listItems (.ref s.heap.objs.size); Builtin.List.listUpdate (.ref s.heap.objs.size) (fun _=>#[]); letGo old.toList.reverse; Builtin.List.listExtendWith (.ref s.heap.objs.size) (.ref d) .none) _ _ _
 refine aL ?_;unfold Builtin.List.listItems;refine aL (oW hS rfl (bL ?_));show wpAny _ _ (updateSeq s.heap.objs.size (fun _=>#[]) >>= fun _=>letGo (#[]:Array AA).toList.reverse >>= fun _=>Builtin.List.listExtendWith (.ref s.heap.objs.size) (.ref d) .none) _ _ _;refine aL (zE hS rfl ?_);have hS₂:=ux (Obj.mapSeq (fun _=>(#[]:Array AA))) hS rfl;have nd:d≠s.heap.objs.size:=cZ hm.lt_size;have hm2:=(hm.push { cls:=.type "list",data:=.seq #[] }).at' (h':=(s.heap.push { cls:=.type "list",data:=.seq #[] }).update s.heap.objs.size (Obj.mapSeq (fun _=>(#[]:Array AA)))) fun o e=>(kZ _ _ nd.symm).trans e;refine aL (tY ?_);refine Fw (A:=A.in1) hh hd hm2 hlen _ .none _ hS₂ fun h' tk acc' c' hk hS' hacc=>?_;exact⟨rfl,hQ h' tk acc' c' (fun b o e=>hk b o (cZ (bI e)) ((kZ _ _ (xY (bI e))).trans (cU _ e))) hS' hacc⟩
end
theorem Qs{prog:AC}{w:World}{k:Key}{u:AA}(h:(cB prog w).is k u=true):RelV (kV k) u:=by
 rcases cO h with⟨i,t,rfl,rfl⟩ | ⟨x,t,rfl,rfl⟩
 ·exact⟨t,rfl⟩
 ·exact⟨t,rfl⟩
theorem Kw{prog:AC}{w:World}{kvs:List (Key×V)}{vs:List (Key×AA)}(r:KV kvs vs){acc:Array AA}(h:ItemsOf (fun i v=>∃k x,vs[i]?=some (k,x)/\(cB prog w).is k v=true) acc vs.length):Vals (kvs.map fun q=>kV q.1) acc.toList:=by
 have e:∀(l:List (Key×V))(ws:List (Key×AA))(us:List AA),KV l ws->us.length=ws.length->(∀(j:Nat) v,us[j]?=some v->∃k x,ws[j]?=some (k,x)/\(cB prog w).is k v=true)->Vals (l.map fun q=>kV q.1) us:=by
  intro l ws us r
  induction r generalizing us with
  | nil=>intro hl _; cases us with
   | nil=>exact .nil
   | cons=>cases hl
  | @cons a b l1 l2 h1 h2 ih=>
   intro hl hv;cases us with
   | nil=>cases hl
   | cons u us=>
    obtain⟨k,x,e1,e2⟩:=hv 0 u rfl;cases(Option.some.inj e1);refine .cons ?_ (ih us (Nat.succ.inj hl) fun j v hj=>?_)
    ·show RelV (kV a.1) u;rw[h1.1]; exact Qs e2
    ·exact hv (j+1) v hj
 exact e kvs vs acc.toList r h.1 fun j v hj=>h.2 j v (by rw[<- Array.getElem?_toList]; exact hj)
theorem tG{X:Cx}(hc:X.calm=true):cJ X (.type "list") (fun vs H Q=>∃(d:Addr)(kvs:List (Key×V)),vs=[.ref d]/\H d=some (.dK kvs)/\kvs.length<=2 ^ 20/\∀l,H l=none->Q (.ref l) (upd H l (.lst (kvs.map fun q=>kV q.1)))):=by
 symm;intro vs us Q I r h;obtain⟨d,kvs,rfl,hd,hl,q⟩:=h;obtain⟨u,rfl,ru⟩:=r.one;cases ru;obtain⟨hz,hsm,ws,rel,dd⟩:=rB I.hok hd;obtain⟨ep,da⟩:=dd.dictAt;refine list_dict (I.ok.hd hc) hsm da (by rw[<- rel.length]; exact hl) fun h' tk acc' c' kp e it=>?_
 refine⟨.ref s.heap.objs.size,_,I.laid (t':=tk) kp (bc _) (show bM X.prog X.w _ h' _ (.lst (kvs.map fun q=>kV q.1)) from⟨by rw[bZ]; exact hz,acc'.toList,c',Kw rel it,by rw[Array.toArray_toList]; exact e⟩),rfl,q _ (I.hok.fresh (bc _))⟩
section
variable{prog:AC}{w:World}{A:Around}{E:AA->AB->Prop}{s:AB}{knd:KeyKind prog w Key}{it d:Addr}{i ep:Nat}{kvs:List (Key×AA)}
theorem Xk{k:Key}{v:AA}{Q:AA->AB->Prop}(hit:s.heap.IsKeyIter it d i kvs.length ep)(hm:s.heap.DictAt knd d kvs ep)(hx:kvs[i]?=some (k,v))
  (hQ:∀key h',knd.is k key=true->h'.IsKeyIter it d (i+1) kvs.length ep->Heap.SameBut it s.heap h'->Q key { s with heap:=h' }) :
  wpAny (model prog w) A (Builtin.SmallTypes.nextOf (.ref it)) Q E s:=by
 obtain⟨o,ho,hc,hd⟩:=id hit;obtain⟨od,es,hod,hcd,hdd,hk,hp,hn⟩:=id hm;unfold Builtin.SmallTypes.nextOf
 refine aL (yc (name:=Str.ofString "__next__") hit.typeIs F.slot_dict_keyiterator_next
  (sO F.slot_dict_keyiterator_next hit.typeIs F.entry_dict_keyiterator_next ?_ (F.args_dict_keyiterator_next_1 _)))
 refine aL (bL ?_);refine aL ?_;refine aL ?_
 first | refine aL (SQ hit.typeIs (bL ?_)) | refine aL (Jx hit.typeIs (bL ?_))
 refine aL (wpAny_fieldsOf ho hd ?_);have hown:Builtin.Dict_items.ownsTuple "dict_keyiterator" = false:=by decide
 simp only[hown,x_,if_false];show wpAny _ _ (if(Value.ref d==Value.none)=true then _ else _) _ _ s
 rw[aN (show ¬((Value.ref d==Value.none)=true) from iK)];refine aL (bL ?_);refine aL (wpAny_dictEntries hod hdd ?_);have hsz:es.size=kvs.length:=by rw[<- hp.length]; simp
 rw[aN (by rw[hsz]; simp)]
 refine aL (bL ?_);refine aL (wpAny_dictEpoch hod hdd ?_);rw[aN (by simp)]
 refine bL ?_
 have hlt:i<kvs.length:=by
  rcases Nat.lt_or_ge i kvs.length with h | h
  ·exact h
  ·simp[Lf h] at hx
 have hlt':i<es.size:=by rw[hsz]; exact hlt
 have hkey:knd.is k es[i].key=true:=(hp.get? (e:=es[i]) (by simp[hlt']) hx).1
 simp only[show ¬((i:Int)<0) from by omega,if_false,qN,Jy hlt']
 refine aL ?_
 first | refine aL (SQ hit.typeIs (bL ?_)) | refine aL (Jx hit.typeIs (bL ?_))
 refine aL (wpAny_isOneOf_keyiter hit.typeIs ?_);show wpAny _ _ (setField (.ref it) 1 (rawInt ((i:Int)+1)) >>= _) _ _ s;refine aL (DQ ho hd (by simp) ?_)
 have hit':(s.heap.update it (Obj.mapFields (·.setIfInBounds 1 (rawInt ((i:Int)+1))))).IsKeyIter it d (i+1) kvs.length ep:=
  ⟨_,ux _ ho (Obj.isFreed_of_fields (Obj.data_mapFields hd _)),(Obj.cls_mapFields ..).trans hc,by rw[Obj.data_mapFields hd]; simp[rawInt]⟩
 refine aL (kY ?_);refine aL (wpAny_isOneOf_keyiter (s:={ s with heap:=s.heap.update it (Obj.mapFields (·.setIfInBounds 1 (rawInt ((i:Int)+1)))) }) hit'.typeIs ?_)
 show wpAny _ _ (pure es[i].key) _ _ _;exact bL (bL ⟨_,rfl,bL (hQ _ _ hkey hit' (Js ..))⟩)
theorem T8{Q:AA->AB->Prop}(hh:A.handled=none)(hit:s.heap.IsKeyIter it d i kvs.length ep)(hm:s.heap.DictAt knd d kvs ep)(hx:kvs[i]?=none)
  (q:∀h' x,Heap.ExtBut it s.heap h'->(∃o,h'.get? x=some o/\o.cls=.type "StopIteration")->E (.ref x) { s with heap:=h' }):wpAny (model prog w) A (Builtin.SmallTypes.nextOf (.ref it)) Q E s:=by
 obtain⟨o,ho,hc,hd⟩:=id hit;obtain⟨od,es,hod,hcd,hdd,hk,hp,hn⟩:=id hm;unfold Builtin.SmallTypes.nextOf
 refine aL (yc (name:=Str.ofString "__next__") hit.typeIs F.slot_dict_keyiterator_next
  (sO F.slot_dict_keyiterator_next hit.typeIs F.entry_dict_keyiterator_next ?_ (F.args_dict_keyiterator_next_1 _)))
 refine aL (bL ?_);refine aL ?_;refine aL ?_
 first | refine aL (SQ hit.typeIs (bL ?_)) | refine aL (Jx hit.typeIs (bL ?_))
 refine aL (wpAny_fieldsOf ho hd ?_);have hown:Builtin.Dict_items.ownsTuple "dict_keyiterator" = false:=by decide
 simp only[hown,x_,if_false];show wpAny _ _ (if(Value.ref d==Value.none)=true then _ else _) _ _ s
 rw[aN (show ¬((Value.ref d==Value.none)=true) from iK)];refine aL (bL ?_);refine aL (wpAny_dictEntries hod hdd ?_);have hsz:es.size=kvs.length:=by rw[<- hp.length]; simp
 rw[aN (by rw[hsz]; simp)]
 refine aL (bL ?_);refine aL (wpAny_dictEpoch hod hdd ?_);rw[aN (by simp)]
 refine bL ?_;have hge:es.size<=i:=by rw[hsz]; simpa using hx
 simp only[show ¬((i:Int)<0) from by omega,if_false,qN,Array.getElem?_eq_none hge]
 refine aL ?_
 first | refine aL (SQ hit.typeIs (bL ?_)) | refine aL (Jx hit.typeIs (bL ?_))
 show wpAny _ _ (setField (.ref it) 0 .none >>= _) _ _ s;refine aL (DQ ho hd (by simp) ?_)
 exact yZ (A:=A.in1) hh fun h' x k z=>q h' x ((Js ..).extBut.trans' k) z
end
theorem z8{prog:AC}{w:World}{A:Around}{knd:KeyKind prog w Key}(hh:A.handled=none){it d:Addr}(ne:d≠it)(kvs:List (Key×AA))(ep:Nat):Draws prog w A it [it,d] kvs.length (fun i v=>∃k x,kvs[i]?=some (k,x)/\knd.is k v=true) (fun i h=>h.IsKeyIter it d i kvs.length ep/\h.DictAt knd d kvs ep) where
 live:=fun i h z=>let ⟨⟨o,e,_⟩,_⟩:=z; ⟨o,e⟩
 frame:=fun i h h' z k=>⟨z.1.at fun o e=>k it eX o e,z.2.at' fun o e=>k d (dX _ eX) o e⟩
 item:=fun i s Q E hi z q=>by
  refine Xk z.1 z.2 (k:=(kvs[i]).1) (v:=(kvs[i]).2) (cN hi) fun key h' hk z' sb=>?_;exact q _ h' s.toks ⟨_,_,cN hi,hk⟩ ⟨z',z.2.extBut sb.extBut ne⟩ sb
 done:=fun s Q E z q=>T8 hh z.1 z.2 (by simp) q
abbrev kiH(h:Heap)(d n ep:Nat):Heap:=h.push { cls:=.type "dict_keyiterator",data:=.fields #[.ref d,.int 0 0,.int n 0,.int ep 0] }
abbrev enK(h:Heap)(d n ep:Nat):Heap:=(kiH h d n ep).push { cls:=.type "enumerate",data:=.fields #[.none,.bool false,.ref h.objs.size,rawInt 0,.none,.none] }
theorem xf{prog:AC}{w:World}{A:Around}{E:AA->AB->Prop}{s:AB}{d:Addr}{dc:Option Addr}{es:Array DictEntry}{ep:Nat}{sl:Array (Option AA)}{Q:AA->AB->Prop}(hd:(d==sysModules)=false)(ht:s.heap.get? d=some ⟨.type "dict",dc,.dict es ep,sl⟩)
  (hQ:Q (.ref s.heap.objs.size) { s with heap:=kiH s.heap d es.size ep }):wpAny (model prog w) A (pyIter (.ref d)) Q E s:=by
 have hT:s.TypeIs (.ref d) "dict" := ⟨_,ht,rfl⟩;refine wpAny_pyIter_slot hT F.slot_dict_iter (sO F.slot_dict_iter hT F.entry_dict_iter ?_ (F.args_dict_iter_1 _));unfold Builtin.«dict.__iter__»;refine aL ?_;unfold Builtin.Dict.dictSlotNone;refine aL (wpAny_notOrdered_dict hT ?_);show wpAny _ _ (pure (Value.ref d)) _ _ s;refine bL ?_;show wpAny _ _ (Builtin.Dict.showsAll d >>= _) _ _ s;unfold Builtin.Dict.showsAll;rw[aN (by rw[hd]; exact iK)]
 refine aL (bL ?_);refine aL (wpAny_dictEntries ht rfl ?_);refine aL (wpAny_dictEpoch ht rfl ?_);refine aL (qP (bL ⟨_,rfl,"dict_keyiterator",_,⟨_,cI _ rfl,rfl⟩,F.slot_dict_keyiterator_next.lookup,?_⟩));simpa[rawInt] using hQ
set_option maxHeartbeats 1000000 in
theorem Qk(d:Addr)(ep:Nat)(es:Array DictEntry)(dc:Option Addr)(sl:Array (Option AA))(hd:(d==sysModules)=false) :
  Meets (Builtin.«enumerate.__new__» ⟨[.type "enumerate",.ref d],[]⟩) (fun _ R s=>s.heap.get? d=some ⟨.type "dict",dc,.dict es ep,sl⟩/\R (.ok (.ret (.ref (kiH s.heap d es.size ep).objs.size))) { s with heap:=enK s.heap d es.size ep }):=
 .of_wp fun prog w A R s z=>by
  obtain⟨hp,g,d',tk,os⟩:=s;obtain⟨ht,z⟩:=z;have sub:=sub_enumerate
  wp_walk using AutoSeq1.wpAny_loadPart' ht
  refine wpAny_stack_any fun st=>bL ?_;split
  ·rename_i c _ _ _ _ _;cases(c==Value.type "enumerate") <;> (wp_walk using AutoSeq1.wpAny_loadPart' ht,xf hd ht; exact⟨_,rfl,z⟩)
  ·wp_walk using AutoSeq1.wpAny_loadPart' ht,xf hd ht; exact⟨_,rfl,z⟩
theorem HR{prog:AC}{w:World}{A:Around}{E:AA->AB->Prop}{s:AB}{d:Addr}{dc:Option Addr}{es:Array DictEntry}{ep:Nat}{sl:Array (Option AA)}{Q:AA->AB->Prop}(hd:(d==sysModules)=false)(ht:s.heap.get? d=some ⟨.type "dict",dc,.dict es ep,sl⟩)
  (q:∀h',IsEnum h' (s.heap.objs.size+1) s.heap.objs.size 0 .none->h'.IsKeyIter s.heap.objs.size d 0 es.size ep->(∀b o,s.heap.get? b=some o->h'.get? b=some o)->Q (.ref (s.heap.objs.size+1)) { s with heap:=h' }) :
  wpAny (model prog w) A (call (.type "enumerate") [.ref d]) Q E s:=by
 have sz:(kiH s.heap d es.size ep).objs.size=s.heap.objs.size+1:=gf ..;have g1:(enK s.heap d es.size ep).get? (kiH s.heap d es.size ep).objs.size=some _:=cI _ rfl;have g0:(enK s.heap d es.size ep).get? s.heap.objs.size=some _:=cU _ (cI _ rfl);refine callType_new F.called_enumerate ⋯ (F.typeCall_enumerate_1 _) (F.newCall_enumerate_1 _) (fun x=>F.args_object_init_2 x _) F.entry_enumerate_new (Qk d ep es dc sl hd) ⟨ht,?_⟩
 show _/\_;rw[sz] at g1 ⊢;exact⟨⟨_,g1,rfl⟩,q _ g1 ⟨_,g0,rfl,rfl⟩ fun b o e=>cU _ (cU _ e)⟩
def Yt(d:Addr)(o:Obj)(kvs:List (Key×V)):It:=
 ⟨fun i H=>H d=some (.kE o (.dK kvs))/\i<kvs.length,fun i H x H'=>∃p k y,H p=none/\x=.ref p/\kvs[i]?=some (k,y)/\H'=upd H p (.tup [.int i,kV k]),fun i H=>H d=some (.kE o (.dK kvs))/\kvs.length=i⟩
theorem Gv{P:AC}{w:World}{K:Frag}{elts:List Expr}{x1}{tp:Pos}{d e it:Addr}{o:Obj}{kvs:List (Key×V)}{es:Array DictEntry}{ep:Nat}(ho:o.data=.dict es ep)(hne:e≠it):Turn P w K (.Tuple elts x1 tp) (Yt d o kvs) [e,it] e (fun i h=>(∃old,IsEnum h e it (i:Nat) old)/\h.IsKeyIter it d i kvs.length ep) where
 mem:=by simp
 obj:=fun i h st b hb=>by
  obtain⟨⟨old,he⟩,o,ho,c,d⟩:=st;rcases bK.mp hb with z | z
  ·rw[z]; exact⟨_,he,fun v q=>by cases q⟩
  ·rw[dM.mp z]; exact⟨o,ho,fun v q=>by rw[d] at q; cases q⟩
 keep:=fun i h h' st k=>by
  obtain⟨⟨old,he⟩,hi⟩:=st;exact⟨⟨old,k e (by simp) _ he⟩,hi.at fun o q=>k it (by simp) o q⟩
 item:=by
  intro X hP hw hK hc i ae s σ H E I hf st hg;subst hP hw hK;obtain⟨⟨old,he⟩,hi⟩:=st;obtain⟨hd,hlt⟩:=hg;obtain⟨vs,r,da⟩:=lV I hd ho;have fe:=hf e (by simp)
  have fi:=hf it (by simp)
  have nea:e≠d:=fun z=>by
   obtain⟨o,es,g,c,_⟩:=da;rw[<- z,he] at g;cases g;exact absurd (show Value.type "enumerate" = Value.type "dict" from c.1) ⋯
  have nia:d≠it:=fun z=>by
   obtain⟨o,es,g,c,_⟩:=da;obtain⟨o',g',c',_⟩:=hi;rw[z,g'] at g;cases g;rw[c.1] at c';exact absurd c' ⋯
  have lvs:=r.length;refine wpAny_pyNext_enum_itemD (z8 (A:=X.A.in1) (knd:=cB X.prog X.w) (show X.A.in1.handled=none from I.ok.hd hc) nia vs ep) he (show _/\_ from⟨by rw[<- lvs]; exact hi,da⟩) (by rw[<- lvs]; exact hlt) hne (fun z=>by rcases bK.mp z with y | y; exact hne y; exact nea (dM.mp y)) fun u' h' tk hu' eo hi' ht hsz kk=>?_
  obtain⟨k,x,hk,ik⟩:=hu'
  have ekv:∃y,kvs[i]?=some (k,y):=by
   obtain⟨u,hu,_⟩:=Ho r (i:=i) (k:=(kvs[i]).1) (x:=(kvs[i]).2) (cN hlt);rw[hu] at hk;cases hk;exact⟨(kvs[i]).2,cN hlt⟩
  obtain⟨y,ekv⟩:=ekv;have ru:RelV (kV k) u':=Qs ik;have fr:H s.heap.objs.size=none:=I.hok.fresh (bc _)
  have I1:Inv X ae σ (upd H s.heap.objs.size (.tup [.int i,kV k])) { s with heap:=s.heap.push { cls:=.type "tuple",data:=.seq #[.int i tk,u'] },toks:=tk }:=
   I.laid (t':=tk) (fun b v z=>cU _ z) (bc _) ⟨(by show 2<=sizeLine; decide),[.int i tk,u'],.cons ⟨_,rfl⟩ (.cons ru .nil),⟨_,cI _ rfl,rfl,_,rfl⟩⟩
  have le:e<s.heap.objs.size:=bI he;have li:it<s.heap.objs.size:=by obtain⟨o,ho,_⟩:=hi; exact bI ho
  have Hz:eE X ae (upd H s.heap.objs.size (.tup [.int i,kV k])) e:=⟨by rw[aC (cZ le)]; exact fe.1,fe.2⟩
  have fi1:eE X ae (upd H s.heap.objs.size (.tup [.int i,kV k])) it:=⟨by rw[aC (cZ li)]; exact fi.1,fi.2⟩
  have I2:Inv X ae σ (upd H s.heap.objs.size (.tup [.int i,kV k])) { s with heap:=h',toks:=tk+1 }:=I1.Iw (t':=tk+1) (fun b o z1 z2 z=>by
   by_cases y:b=s.heap.objs.size
   ·subst y;rw[cI _ rfl] at z;cases z;exact ht
   ·rcases Heap.get?_push_cases z with v | v
    ·exact absurd v.1 y
    ·exact kk b o z1 z2 v) Hz fi1
  refine⟨_,rfl,wpAny_letOwnedTupleGo_enum eo fun h2 en sb=>⟨.ref s.heap.objs.size,_,I2.turned (it:=e) (t':=tk+1) (fun b o hb z=>sb.extBut b o hb z) Hz.1 Hz.2.1 Hz.2.2.2.1 Hz.2.2.2.2.1 Hz.2.2.2.2.2,rfl,⟨_,k,y,fr,rfl,ekv,rfl⟩,⟨⟨_,en⟩,?_⟩,fun b hb=>?_⟩⟩
  ·have:=hi'.1.at fun o z=>sb.extBut it o (Ne.symm hne) z;rw[<- lvs] at this;exact this
  ·rcases bK.mp hb with z | z
   ·rw[z]; exact Hz.1
   ·rw[dM.mp z]; exact fi1.1
 done:=by
  intro X hP hw hK hc i ae s σ H E I hf st hg;subst hP hw hK;obtain⟨⟨old,he⟩,hi⟩:=st;obtain⟨hd,hge⟩:=hg;obtain⟨vs,r,da⟩:=lV I hd ho;have lvs:=r.length;obtain⟨f0,f1,f2,f3,f4,f5⟩:=hf it (by simp)
  have nia:d≠it:=fun z=>by
   obtain⟨o,es,g,c,_⟩:=da;obtain⟨o',g',c',_⟩:=hi;rw[z,g'] at g;cases g;rw[c.1] at c';exact absurd c' ⋯
  have D:=z8 (prog:=X.prog) (w:=X.w) (A:=X.A.in1) (knd:=cB X.prog X.w) (show X.A.in1.handled=none from I.ok.hd hc) nia vs ep;refine wpAny_pyNext_enum_endD D he (show _/\_ from⟨?_,da⟩) fun h' eb=>⟨rfl,I.turned (t':=s.toks) (fun b o hb z=>eb b o hb z) f0 f1 f3 f4 f5⟩;have:vs.length=i:=by omega
  rw[this,<- hge];rw[<- hge] at hi;exact hi
 self:=fun _ _ _ _ _ st h=>by
  obtain⟨⟨old,he⟩,_⟩:=st;exact Jp he h
section
variable{X:Cx}
def QB(ta:TA):TI:=fun σ H R=>ta σ H fun vs H1=>∃d kvs,vs=[.ref d]/\H1 d=some (.dK kvs)/\∀o,R (Yt d o kvs) (upd H1 d (.kE o (.dK kvs)))
theorem PB{e:Expr}{elts:List Expr}{x1}{tp p pos:Pos}{ta:TA}(hm:X.mg "enumerate" = none)(ha:PA X [e] ta)(hg: ~~~(Gl X "enumerate"))(h1: ~~~(bJ e=true)) :
  PI X (.Tuple elts x1 tp) (.Call (.Name "enumerate" p) [e] [] pos) (QB ta):=by
 symm;intro R I h;refine qQ (gZ I hg hm rM ?_ ⋯ ⋯)
 refine PyProof.Rows.callWith_type1 (cA (ha pos ae s σ H _ I h) fun us s1 ⟨vs,H1,I1,r1,q1⟩=>?_) (bU h1) (b7 (es:=[]) rfl);obtain⟨d,kvs,rfl,hd,q⟩:=q1;obtain⟨u,rfl,ru⟩:=r1.one;cases ru;obtain⟨hz,hsm,vs,rel,dd⟩:=rB I1.hok hd;obtain⟨ob,es,ep,he,hdt,I2⟩:=I1.freeze hd;obtain⟨vs',r',da⟩:=lV I2 aB hdt;obtain⟨oo,es',ho,hc,hdat,hrest⟩:=id da;rw[he] at ho;cases ho;rw[hdt] at hdat;cases hdat;obtain⟨c,dc,dt,sl⟩:=ob;cases(show c=.type "dict" from hc.1);cases(show dt=.dict es ep from hdt)
 have hsz:es.size=kvs.length:=by
  have h1:=r'.length;have h2:=hrest.2.1.length;rw[Jr] at h2;omega
 refine HR hsm he fun h' hen hi kk=>?_;have I3:=I2.kept (t':=s1.toks) kk;have f1:upd H1 d (.kE _ (.dK kvs)) (s1.heap.objs.size+1)=none:=I2.hok.fresh (tX _);have f0:upd H1 d (.kE _ (.dK kvs)) s1.heap.objs.size=none:=I2.hok.fresh (bc _);refine Jp hen ⟨s1.heap.objs.size+1,_,_,Yt d _ kvs,_,rfl,I3,Gv rfl (Nat.succ_ne_self _),⟨⟨_,hen⟩,by rw[<- hsz]; exact hi⟩,fun b hb=>?_,q _⟩
 rcases bK.mp hb with z | z
 ·rw[z]; exact I2.nR (tX _) f1
 ·rw[dM.mp z]; exact I2.nR (bc _) f0
def Vw(t:TS):TS:=fun D σ H=>t { nx:=fun σ' H'=>∃d kvs o,H d=some (.dK kvs)/\H' d=some (.kE o (.dK kvs))/\D.nx σ' (upd H' d (.dK kvs)),rt:=fun _ _=>False } σ H
theorem S6{st:Stmt}{t:TS}(h:PS X st t):PS X st (Vw t):=by
 symm;intro D I hq;refine cA (h ae s σ H _ I hq) fun f s1 qx=>?_;cases f with
 | next=>
  obtain⟨σ',H1,I1,d,kvs,o,h1,h2,q⟩:=qx;exact⟨σ',_,I.ZG h1 I1 h2,q⟩
 | brk=>obtain⟨_,_,_,z⟩:=qx; exact z.elim
 | cont=>obtain⟨_,_,_,z⟩:=qx; exact z.elim
 | ret u=>obtain⟨_,_,_,_,_,z⟩:=qx; exact z.elim
theorem QX{g:TG}{tb:TS}{D:Ends}{σ:St}{H:Hp}{ta:TA}{d:Addr}{kvs:List (Key×V)}(hl:∀R:List V->Hp->Prop,R [.ref d] H->ta σ H R)(ha:H d=some (.dK kvs))(Pv:Nat->St->Prop)(h0:Pv 0 σ)
  (hs:∀i k y σ H1 H2 p,kvs[i]?=some (k,y)->Pv i σ->(∀b u,b≠d->H b=some u->H1 b=some u)->aJ H1 H2->H2 p=some (.tup [.int (i:Nat),kV k])->∀N:St->Hp->Prop,(∀σ' H3,Pv (i+1) σ'->aJ H2 H3->N σ' H3) ->
   g (.ref p) σ H2 fun σ2 H3=>tb { nx:=N,rt:=fun _ _=>False,ct:=N,bk:=fun σ' H'=>∃d kvs o,H d=some (.dK kvs)/\H' d=some (.kE o (.dK kvs))/\D.nx σ' (upd H' d (.dK kvs)) } σ2 H3)
  (hd:∀σ H',Pv kvs.length σ->aJ H H'->D.nx σ H'):Vw (Dv (QB ta) g tb) D σ H:=by
 refine hl _ ⟨d,kvs,rfl,ha,fun o=>?_⟩;refine⟨fun i m σ H2=>m=kvs.length-i/\i<=kvs.length/\Pv i σ/\H2 d=some (.kE o (.dK kvs))/\∀b u,b≠d->H b=some u->H2 b=some u,⟨_,rfl,eV _,h0,aB,fun b u n z=>by rw[aC n]; exact z⟩,?_⟩
 rintro i m σ H2 ⟨rfl,hi,hP,f2,k2⟩;by_cases hlt:i<kvs.length
 ·refine .inr ⟨⟨f2,hlt⟩,fun σ' H3=>Pv (i+1) σ'/\H3 d=some (.kE o (.dK kvs))/\∀b u,b≠d->H b=some u->H3 b=some u,fun σ' H3 hN=>⟨kvs.length-(i+1),∅,rfl,hlt,hN.1,hN.2.1,hN.2.2⟩,fun x H3 y=>?_⟩
  obtain⟨p,k,z,hp,rfl,hk,rfl⟩:=y;have s3:aJ H2 (upd H2 p (.tup [.int (i:Nat),kV k])):=aM hp _;exact hs i k z σ H2 _ p hk hP k2 s3 aB _ fun σ' H4 h4 s4=>⟨h4,s4 _ _ (s3 _ _ f2),fun b u n z=>s4 _ _ (s3 _ _ (k2 b u n z))⟩
 ·have e:i=kvs.length:=by omega
  subst e;refine .inl ⟨⟨f2,rfl⟩,d,kvs,o,ha,f2,hd σ _ hP fun b u z=>?_⟩;by_cases e:b=d
  ·subst e; rw[aB,<- z,ha]
  ·rw[aC e]; exact k2 b u e z
end
end _L
namespace _L
open PySem PySem.Spec PyProof.Rows
def ItD(d:Addr)(o:Obj)(kvs:List (Key×V)):It:=
 ⟨fun i H=>H d=some (.kE o (.dK kvs))/\i<kvs.length,fun i H x H'=>H'=H/\∃k y,kvs[i]?=some (k,y)/\x=kV k,fun i H=>H d=some (.kE o (.dK kvs))/\kvs.length<=i⟩
theorem KJ{P:AC}{w:World}{K:Frag}{tg:Expr}{d it:Addr}{o:Obj}{kvs:List (Key×V)}{es:Array DictEntry}{ep:Nat}(ho:o.data=.dict es ep):Turn P w K tg (ItD d o kvs) [it] it (fun i h=>h.IsKeyIter it d i kvs.length ep) where
 mem:=by simp
 obj:=fun i h st b hb=>by
  have e:b=it:=by simpa using hb
  subst e;obtain⟨o,e,c,d⟩:=st;exact⟨o,e,fun v z=>by rw[d] at z; cases z⟩
 keep:=fun i h h' st k=>st.at fun o e=>k it (by simp) o e
 item:=by
  intro X hP hw hK hc i ae s σ H E I hf st hg;subst hP hw hK;obtain⟨hd,hi⟩:=hg;obtain⟨vs,r,da⟩:=lV I hd ho;obtain⟨u,hu,ru⟩:=Ho r (i:=i) (k:=(kvs[i]).1) (x:=(kvs[i]).2) (cN hi);obtain⟨f0,f1,f2,f3,f4,f5⟩:=hf it (by simp)
  have st2:s.heap.IsKeyIter it d i vs.length ep:=by rw[<- r.length]; exact st
  refine wpAny_pyNext_dict_item st2 da hu fun key h' hk st' sb=>?_;have I1:Inv X ae σ H { s with heap:=h' }:=I.turned (t':=s.toks) (fun b o hb e=>(sb.2 b hb).trans e) f0 f1 f3 f4 f5
  obtain⟨o2,e2,c2,d2⟩:=id st';refine⟨key,rfl,xm (s:={ s with heap:=h' }) e2 c2 d2 ⋯ ⟨kV (kvs[i]).1,H,I1,Qs hk,⟨rfl,(kvs[i]).1,(kvs[i]).2,cN hi,rfl⟩,?_,fun b hb=>(hf b hb).1⟩⟩
  rw[r.length]; exact st'
 done:=by
  intro X hP hw hK hc i ae s σ H E I hf st hg;subst hP hw hK;obtain⟨hd,hi⟩:=hg;obtain⟨vs,r,da⟩:=lV I hd ho;obtain⟨f0,f1,f2,f3,f4,f5⟩:=hf it (by simp)
  have st2:s.heap.IsKeyIter it d i vs.length ep:=by rw[<- r.length]; exact st
  exact wpAny_pyNext_dict_end (I.ok.hd hc) st2 da (Pk.mpr (by rw[<- r.length]; exact hi)) fun h' eb=>⟨rfl,I.turned (t':=s.toks) (fun b o hb e=>eb b o hb e) f0 f1 f3 f4 f5⟩
 self:=fun _ _ _ _ _ st h=>wpAny_pyIter_keyiter st h
def VP(K:Frag)(to:TE):TI:=fun σ H R=>to σ H fun x H1=>∃d kvs,x=.ref d/\H1 d=some (.dK kvs)/\∀o,R (ItD d o kvs) (upd H1 d (.kE o (.dK kvs)))
theorem Ti{X:Cx}{K:Frag}{tg e:Expr}{to:TE}(hK:X.K=K)(ho:PE X e to):PI X tg e (VP K to):=by
 symm;intro R I h;refine cA (ho ae s σ H _ I h) fun v s1 qx=>?_;obtain⟨x,H1,I1,r1,d,kvs,ex,hd,q⟩:=qx;subst ex;cases r1;obtain⟨hz,hsm,vs,rel,dd⟩:=rB I1.hok hd;obtain⟨ob,es,ep,he,hdt,I2⟩:=I1.freeze hd;obtain⟨vs',r',da⟩:=lV I2 aB hdt;refine wpAny_pyIter_dict hsm da ?_;refine⟨_,[_],_,_,_,rfl,I2.kept (t':=s1.toks) fun b u e=>cU _ e,KJ hdt,?_,fun b hb=>?_,q ob⟩
 ·exact⟨_,cI _ rfl,rfl,by rw[r'.length]; rfl⟩
 ·have e:=dM.mp hb;subst e;exact I2.nR (bc _) (I2.hok.fresh (bc _))
theorem UW{K:Frag}{js:List Nat}{d:Addr}{kvs:List (Key×V)}{tl te:TE}{σ:St}{H:Hp}{Q:VK}(ds:List PyData)(hl:∀R:VK,R (.ref d) H->tl σ H R)(ha:H d=some (.dK kvs))(ld:ds.length=kvs.length)(hz:kvs.length<=1000)(hn:bG ds=true)
  (step:∀(i:Nat) k y dt H',kvs[i]?=some (k,y)->ds[i]?=some dt->dW H H'->∀R:VK,(∀v H5,aJ H' H5->At H5 dt v->R v H5)->te (some (kV k)::bW js σ) H' R)
  (fin:∀acc vs H',H acc=none->aJ H H'->H' acc=some (.lst vs)->aj H' ds vs->Q (.ref acc) H'):Oe (iu js (VP K tl) te) σ H Q:=by
 refine hl _ ⟨d,kvs,rfl,ha,fun o acc hacc=>?_⟩;have nd:acc≠d:=fun z=>by rw[z,aB] at hacc; cases hacc
 rw[aC nd] at hacc;refine⟨fun i m ys H2=>m=kvs.length-i/\i<=kvs.length/\ys.length=i/\aj H2 (ds.take i) ys/\H2 acc=some (.lst ys)/\H2 d=some (.kE o (.dK kvs))/\∀b u,H b=some u->b≠d->H2 b=some u,⟨_,rfl,eV _,rfl,aj.nil,aB,by rw[aC nd.symm,aB],fun b u z n=>by rw[aC (fun e=>by rw[e,hacc] at z; cases z),aC n]; exact z⟩,?_⟩
 rintro i m ys H2 ⟨rfl,hi,lv,av,e2,f2,k2⟩;by_cases hlt:i<kvs.length
 ·refine .inr ⟨⟨f2,hlt⟩,fun x H3 y=>?_⟩;obtain⟨e1,k,z,hx,rfl⟩:=y;subst e1;have em:ds[i]?=some ds[i]:=cN ∅
  refine step i k z _ _ hx em (fun b xs z=>k2 b _ z fun e=>by rw[e,ha] at z; cases z) _ fun v H5 s5 a5=>?_
  have e5:=s5 _ _ e2;refine⟨e5,aR ∅,kvs.length-(i+1),∅,rfl,hlt,by rw[cF,lv]; rfl,?_,aB,?_,?_⟩
  ·have kp:dW H5 (upd H5 acc (.lst (ys++[v]))):=dW.putL e5;rw[b8 em];have nt:bG (ds.take i)=true:=aW.mpr fun d hd=>aW.mp hn d (wy hd);exact aj.snoc (aj.kp kp _ _ nt (av.mono s5)) (At.kp kp _ _ (aW.mp hn _ (dN em)) a5)
  ·rw[aC nd.symm]; exact s5 _ _ f2
  ·intro b u z n;rw[aC (fun e=>by rw[e,hacc] at z; cases z)]
   exact s5 _ _ (k2 b u z n)
 ·have e:i=kvs.length:=by omega
  subst e;rw[<- ld,mV] at av;refine .inl ⟨⟨f2,bc _⟩,d,kvs,o,ha,f2,?_⟩;have kp:dW H2 (upd H2 d (.dK kvs)):=fun b xs z=>by rw[aC (fun e=>by rw[e,f2] at z; cases z)]; exact z
  refine fin acc ys _ hacc (fun b u z=>?_) (by rw[aC nd]; exact e2) (aj.kp kp _ _ hn av)
  by_cases e:b=d
  ·subst e; rw[aB,<- z,ha]
  ·rw[aC e]; exact k2 b u z e
section
variable{X:Cx}
theorem MF(hc:X.calm=true):cJ X (.builtin "min") (fun vs H Q=>∃(p:Addr)(b:Int)(r:List Int),vs=[.ref p]/\H p=some (.tup ((b::r).map V.int))/\Q (.int (uK b r)) H):=by
 symm;intro vs us Q I r h;obtain⟨p,b,rs,rfl,hp,q⟩:=h;obtain⟨u,rfl,ru⟩:=r.one;cases ru;obtain⟨_,its,rv,e⟩:=I.hok p _ hp;obtain⟨e1,e2⟩:=xj rv;have hl:s.heap.IsTuple p (intItems (its.map pairOf).toArray):=by rw[<- e1]; exact e
 have hlen:=rv.length;rw[bZ] at hlen
 have na:∀i,numAt (its.map pairOf).toArray i=(b::rs).getD i 0:=fun i=>by
  unfold numAt;rw[<- e2,iI];simp;rfl
 have hpl:p<s.heap.objs.size:=by obtain⟨o,g,_⟩:=hl; exact bI g
 refine call_min_walk (Ep hl ?_);refine⟨_,_,_,_,_,_,_,rfl,Walks.tuple (A:=X.A.in1) (I.ok.hd hc) s.heap.objs.size p (cZ hpl) (intItems (its.map pairOf).toArray),⟨⟨_,cI _ rfl,rfl,rfl⟩,hl.push _⟩,fun c hc=>?_,by simp[intItems]; rw[<- hlen]; simp,CmpOf.ints_lt (numAt (its.map pairOf).toArray) (fun _ _=>intItems_at),fun v h' tk hv k=>?_⟩
 ·rw[gf];rcases bK.mp hc with h | h
  ·rw[h]; exact Bg _
  ·rw[dM.mp h]; exact Bh hpl
 obtain⟨t,rfl⟩:=intItems_at hv;refine⟨.int (uK b rs),H,I.kept (t':=tk) (fun c o e=>k c o (fun h=>by rw[dM.mp h] at e; exact absurd (bI e) (pU _)) (cU _ e)),⟨t,?_⟩,q⟩
 have sz:(intItems (its.map pairOf).toArray).size-1=rs.length:=by simp[intItems]; rw[<- hlen]; simp
 have:=Ko (numAt (its.map pairOf).toArray) ((intItems (its.map pairOf).toArray).size-1);rw[this]
 congr 1
 rw[sz,na 0];show uK b _=_
 congr 1
 apply Jl
 ·simp
 ·intro i h1 h2;simp at h1 h2;rw[List.getElem_map,List.getElem_range,na (i+1)];simp[iI,h2]
theorem MN:cJ X (.builtin "len") (fun vs H Q=>∃(d:Addr)(kvs:List (Key×V)),vs=[.ref d]/\H d=some (.dK kvs)/\Q (.int (kvs.length:Nat)) H):=by
 symm;intro vs us Q I r h;obtain⟨d,kvs,rfl,hd,q⟩:=h;obtain⟨u,rfl,ru⟩:=r.one;cases ru;obtain⟨hz,hsm,ws,rel,dd⟩:=rB I.hok hd;have hl:=rel.length;have h0:sizeLine<2 ^ 63:=by decide
 refine call_len_dict hsm dd ∅ ?_
 exact⟨.int (kvs.length:Nat),H,I.tok _,⟨_,by rw[hl]⟩,q⟩
end
theorem Q7{K:Frag}{nt:Nat}{g:TG}{js:List Nat}{a:Addr}{xs:List V}{tl te:TE}{tc:TT}{σ:St}{H:Hp}{Q:VK}(τ:Nat->St)(hτ:∀i,(τ i).length=nt)(hl:∀R:VK,R (.ref a) H->tl σ H R)(ha:H a=some (.lst xs))
  (h:∀acc,H acc=none->∃Pv:Nat->List V->Hp->Prop,Pv 0 [] (upd H acc (.lst []))/\(∀i ys H',Pv i ys H'->H' a=some (.lst xs)) /\
   (∀i x ys H',xs[i]?=some x->Pv i ys H'->(∀R:St->Hp->Prop,R (τ i++bW js σ) H'->g x (List.replicate nt none++bW js σ) H' R)/\tc (τ i++bW js σ) H' fun b cQ=>if b=true then te (τ i++bW js σ) cQ fun y H4=>H4 acc=some (.lst ys)/\ys.length<sizeLine/\Pv (i+1) (ys++[y]) (upd H4 acc (.lst (ys++[y]))) else Pv (i+1) ys cQ)/\∀ys H',Pv xs.length ys H'->Q (.ref acc) H'):eN nt js (nJ K tl) g tc te σ H Q:=by
 refine hl _ ⟨a,rfl,⟨xs,cz.of ha⟩,fun acc hacc=>?_⟩;obtain⟨Pv,p0,pA,ps,pf⟩:=h acc hacc;refine⟨fun i m ys H2=>m=xs.length-i/\i<=xs.length/\Pv i ys H2,⟨_,rfl,eV _,p0⟩,?_⟩;rintro i m ys H2 ⟨rfl,hi,hP⟩;have ht:cz K H2 a xs:=cz.of (pA _ _ _ hP);by_cases hlt:i<xs.length
 ·refine .inr ⟨⟨xs,xs[i],ht,cN hlt⟩,fun x H3 y=>?_⟩;obtain⟨e1,y⟩:=y;subst e1;obtain⟨gg,tt⟩:=ps i x ys _ (y xs ht) hP;refine gg _ ⟨⟨?_,?_⟩,?_⟩
  ·rw[SN (by rw[hτ]; exact bc _),<- hτ i,xZ,Bf]
  ·rw[cF,cF,hτ,pX]
  have e:(fun(b:Bool)(cQ:Hp)=>if b=true then te (τ i++bW js σ) cQ fun y H4=>H4 acc=some (.lst ys)/\ys.length<sizeLine/\Pv (i+1) (ys++[y]) (upd H4 acc (.lst (ys++[y]))) else Pv (i+1) ys cQ)=fun b cQ=>if b=true then te (τ i++bW js σ) cQ fun y H4=>H4 acc=some (.lst ys)/\ys.length<sizeLine/\∃m',m'<xs.length-i/\(m'=xs.length-(i+1)/\i+1<=xs.length/\Pv (i+1) (ys++[y]) (upd H4 acc (.lst (ys++[y])))) else ∃m',m'<xs.length-i/\(m'=xs.length-(i+1)/\i+1<=xs.length/\Pv (i+1) ys cQ):=by
   have e1:∀y H4,(H4 acc=some (.lst ys)/\ys.length<sizeLine/\Pv (i+1) (ys++[y]) (upd H4 acc (.lst (ys++[y]))))=(H4 acc=some (.lst ys)/\ys.length<sizeLine/\∃m',m'<xs.length-i/\(m'=xs.length-(i+1)/\i+1<=xs.length/\Pv (i+1) (ys++[y]) (upd H4 acc (.lst (ys++[y]))))):=fun y H4=>propext ⟨fun⟨z1,z2,z3⟩=>⟨z1,z2,xs.length-(i+1),∅,rfl,hlt,z3⟩,fun⟨z1,z2,_,_,_,_,z3⟩=>⟨z1,z2,z3⟩⟩
   have e2:∀cQ,Pv (i+1) ys cQ=∃m',m'<xs.length-i/\(m'=xs.length-(i+1)/\i+1<=xs.length/\Pv (i+1) ys cQ):=fun cQ=>propext ⟨fun z=>⟨xs.length-(i+1),∅,rfl,hlt,z⟩,fun⟨_,_,_,_,z⟩=>z⟩
   funext b cQ
   rw[<- e2,show(fun y H4=>H4 acc=some (.lst ys)/\ys.length<sizeLine/\Pv (i+1) (ys++[y]) (upd H4 acc (.lst (ys++[y]))))=_ from funext fun y=>funext fun H4=>e1 y H4]
  rw[e] at tt;exact tt
 ·have e:i=xs.length:=by omega
  subst e;exact .inl ⟨⟨xs,ht,bc _⟩,pf ys H2 hP⟩
section
variable{X:Cx}
def aap:List V->Hp->VK->Prop:=fun vs H Q=>∃v d,vs=[v,.ty "list"]/\(∀K,qw K H v (.type (N8 d)))/\Q (.bl (ug d)) H
theorem Qv:cJ X (.builtin "isinstance") aap:=by
 symm;intro vs us Q I r h;obtain⟨v,d,rfl,hv,q⟩:=h;obtain⟨u,t,rfl,ru,rt⟩:=r.two;cases(show t=Value.type "list" from rt);exact zW I ru (hv X.K) (Ca X.K d) fun tk=>⟨.bl (ug d),H,I.tok tk,rfl,q⟩
end
end _L
namespace _L
open PySem PySem.Spec PyProof.Rows PySem.Builtin PySem.Builtin.ObjectAttr
section
variable{prog:AC}{w:World}{A:Around}{E:AA->AB->Prop}{h:Heap}{g:Array GenState}{d:Drawn}{t:Nat}{os:OsState}
variable{nm q:Str}{C N:Addr}{bs bm bmB:List AA}{hdct:Bool}{sn:List Str}{sub:List AA}{ab:Bool}{col:Option Bool}{dd:Option Addr}{k0 k1 k2 k3 k5:Option AA}{B Bn newId nid initId inN:String}{bmN:List AA}
end
section
variable{prog:AC}{w:World}{A:Around}{E:AA->AB->Prop}{h:Heap}{g:Array GenState}{d:Drawn}{t:Nat}{os:OsState}
variable{nm q:Str}{C N x HE:Addr}{bs bm:List AA}{sn:List Str}{sub:List AA}{ab:Bool}{col:Option Bool}{dd:Option Addr}{k0 k1 k2 k3 k5:Option AA}{newId:String}{name:Str}{v:AA}{K:Frag}
structure acr(h h':Heap)(x:Addr)(o:Obj)(dx:Addr)(name:Str)(v:AA):Prop where
 at_:h'.get? x=some { o with dict:=some dx }
 new:h.get? dx=none
 ns:h'.Ns1 dx (fun y=>if y=name then some v else none)
 keep:∀b u,b≠x->h.get? b=some u->h'.get? b=some u
end
end _L
namespace _L
open PySem PySem.Spec PyProof.Rows PySem.Builtin PySem.Builtin.ObjectAttr
structure ExS(K:Frag)(C HE:Addr)(f:Str):Prop where
 ob:∃nm q N bs sn sub ab col dd k0 k1 k2 k3 k5,K.lookup C=some (excClassObj nm q C N bs (.ref HE::Wj) true sn sub ab col dd k0 k1 k2 k3 k5 "ValueError.__new__")
 he:excIn K HE Wj "ValueError.__new__" = true
 sa:findIn K (.ref C) "__setattr__" = some (some (.builtin "object.__setattr__"))
 nf:findIn K (.ref C) f=some none
structure ExM(K:Frag)(C HE f:Addr)(fl:Str):Prop where
 s:ExS K C HE fl
 init:findIn K (.ref C) "__init__" = some (some (.ref f))
 own:∃N,(clsIn K C).map (·.ns)=some N/\nsIn K N "__init__" = some (some (.ref f))/\PySem.W.nsOkIn K N=true
 fn:isFn K (.ref f)=true
 kp:keepIn K (.ref C)=true
section
variable{X:Cx}{C HE:Addr}{fl x:Str}{o value:Expr}{ta tv:TE}{pos pos' p:Pos}
end
section
variable{prog:AC}{w:World}{A:Around}{E:AA->AB->Prop}{s:AB}{K:Frag}{x D:Addr}{ox:Obj}{od:Option Obj}
structure ExR(K:Frag)(D:Addr):Prop where
 ga:findIn K (.ref D) "__getattribute__" = some (some (.builtin "BaseException.__getattribute__"))
 gt:findIn K (.ref D) "__getattr__" = some none
 fo:∀od,findObj K D od "__class__" = some (.bind (.builtin "getset_descriptor.__get__") (.builtin "object.__class__"))
 sb:subIn K (.ref D) (.type "BaseException")=some true
 ob:mroIn K D (.type "object")=some true
 cl:(clsIn K D).isSome=true
 hd:hasDictIn K D=true
end
section
variable{X:Cx}{ae:List (Addr×Obj)}{σ:St}{H:Hp}{s:AB}{a C:Addr}{f:Str}{v:V}
end
structure CtX(P:AC)(w:World)(K:Frag)(mg:Str->Option AA)(base:Heap)(k:Nat)(C:Addr)(x:Str)(ps:List Str)(sp:Sp) where
 f:Addr
 fd:FuncData
 j:Nat
 hj:j+1<=k
 HE:Addr
 fl:Str
 G:bH P w K mg base ig j f fd ps sp
 M:ExM K C HE f fl
 b:Binds K fd ps []
 m:mg x=some (.ref C)
section
variable{K:Frag}{C HE f:Addr}{fl:Str}
abbrev FnM(K:Frag)(x qual:Str)(st:Stmt)(f:Addr):Prop:=∃(oc:AA)(od an:Option Addr)(sl:Array (Option AA))(kV dc pm cd ct:AA),K.lookup f=some ⟨oc,od,.func (fnOf x qual (b_ st) (bT st) (aG st) .none kV dc pm an cd ct),sl⟩/\codeIn K cd qual=true/\keepIn K (.ref f)=true
end
end _L
namespace _L
open PySem PySem.Spec PyProof.Rows
structure Kp(K:Frag)(C:Addr)(m qual:Str)(st:Stmt)(f:Addr):Prop where
 me:Meth K C m f
 fn:FnM K m qual st f
theorem Kp.mk'{K:Frag}{C:Addr}{m qual:Str}{st:Stmt}{f:Addr}{oc:AA}{od an:Option Addr}{sl:Array (Option AA)}{kV dc pm cd ct:AA}(a:findIn K (.ref C) m=some (some (.ref f)))(i:isFn K (.ref f)=true)(l:K.lookup f=some ⟨oc,od,.func (fnOf m qual (b_ st) (bT st) (aG st) .none kV dc pm an cd ct),sl⟩)(c:codeIn K cd qual=true)(k:keepIn K (.ref f)=true):Kp K C m qual st f:=⟨⟨a,i,k⟩,⟨oc,od,an,sl,kV,dc,pm,cd,ct,l,c,k⟩⟩
structure Rq(K:Frag)(C:Addr)(m qual:Str)(st:Stmt)(ps:List Str) where
 f:Addr
 fd:FuncData
 F:i_ K m qual st f fd
 b:Binds K fd ps []
 M:Meth K C m f
section
variable{K:Frag}{h:Heap}{mg:Str->Option AA}{C:Addr}
theorem Kp.has{m qual:Str}{st:Stmt}{f:Addr}(e:Kp K C m qual st f){ps:List Str}(H:∀(kV doc pm:AA) (an:Option Addr) (cdv ct:AA) (us:List AA),us.length=ps.length->bindArgs (fnOf m qual (b_ st) (bT st) (aG st) .none kV doc pm an cdv ct) ⟨us,[]⟩=pure (ps.zip us)):Nonempty (Rq K C m qual st ps):=by
 obtain⟨M,oc,od,an,sl,kV,dc,pm,cd,ct,l,c,k⟩:=e;have F:=Hy (st:=st) l c k;exact⟨⟨_,_,F,F.binds H,M⟩⟩
def Rq.ct{m qual:Str}{st:Stmt}{ps:List Str}{k:Nat}{sp:Sp}(h:Rq K C m qual st ps)(c:Dk K C)(P:AC)(w:World)(base:Heap)(G:bH P w K mg base ig k h.f h.fd ps sp):Df P w K mg base k C m ps sp:=⟨h.f,h.fd,G,h.M,c,h.b⟩
def Rq.Zb{m qual:Str}{st:Stmt}{ps:List Str}{k:Nat}{sp:Sp}(h:Rq K C m qual st ps)(c:Dk K C)(P:AC)(w:World)(base:Heap)(G:bH P w K mg base (mz P w) k h.f h.fd ps sp):Gf P w K mg base k C m ps sp:=⟨h.f,h.fd,G,h.M,c,h.b⟩
theorem Wb.ns{x:Str}{st:Stmt}{f T:Addr}{i:Int}(e:Wb K x st f T i):nsIn K mainGlobals x=some (some (.ref f)):=by
 obtain⟨_,_,_,_,_,_,_,_,_,_,_,_,_,_,a,_⟩:=e;exact a
structure Zi(K:Frag)(x qual:Str)(st:Stmt)(C:Addr):Prop where
 ns:nsIn K mainGlobals x=some (some (.ref C))
 c:Dk K C
 init:∃f,Mk K C f/\∃(oc oT:AA)(od an dT:Option Addr)(sl sT:Array (Option AA))(kV dc pm cd ct:AA)(T:Addr)(nT:Nat),K.lookup f=some ⟨oc,od,.func (fnOf "__init__" qual (b_ st) (bT st) (aG st) (.ref T) kV dc pm an cd ct),sl⟩/\codeIn K cd qual=true/\keepIn K (.ref f)=true/\K.lookup T=some ⟨oT,dT,.seq #[.none] nT,sT⟩
theorem Zi.mk'{x qual:Str}{st:Stmt}{f T:Addr}{oc oT:AA}{od an dT:Option Addr}{sl sT:Array (Option AA)}{kV dc pm cd ct:AA}{nT:Nat}(a:nsIn K mainGlobals x=some (some (.ref C)))(a1:findIn K (.ref C) "__init__" = some (some (.ref f)))(i:isFn K (.ref f)=true)
  (l:K.lookup f=some ⟨oc,od,.func (fnOf "__init__" qual (b_ st) (bT st) (aG st) (.ref T) kV dc pm an cd ct),sl⟩) (c:codeIn K cd qual=true) (k:keepIn K (.ref f)=true) (e:K.lookup T=some ⟨oT,dT,.seq #[.none] nT,sT⟩)
  (pg:plainGet K C Str.empty=true) (hd:hasDictIn K C=true) (po:plainOver K C=true) (sa:findIn K (.ref C) "__setattr__" = some (some (.builtin "object.__setattr__"))) (mk:makesIn K C=true) (kc:keepIn K (.ref C)=true):Zi K x qual st C:=
 ⟨a,⟨pg,hd,po,sa⟩,f,⟨mk,a1,i,kc⟩,oc,oT,od,an,dT,sl,sT,kV,dc,pm,cd,ct,T,nT,l,c,k,e⟩
structure Yv(K:Frag)(mg:Str->Option AA)(x qual:Str)(st:Stmt)(ps:List Str)(C:Addr) where
 f:Addr
 fd:FuncData
 T:Addr
 F:Il K "__init__" qual st f fd T
 b:Binds K fd ps []
 bd:Binds K fd ps [.none]
 M:Mk K C f
 m:mg x=some (.ref C)
theorem Zi.has{x qual:Str}{st:Stmt}(e:Zi K x qual st C)(X:K.In h)(G:h.Ns mainGlobals mg){ps:List Str}
  (H:∀(T:Addr)(kV doc pm:AA)(an:Option Addr)(cdv ct:AA)(us:List AA),(us++[]).length=ps.length->∃k,bindArgs (fnOf "__init__" qual (b_ st) (bT st) (aG st) (.ref T) kV doc pm an cdv ct) ⟨us,[]⟩=seqItems? (.ref T) >>= k/\k (some #[.none])=pure (ps.zip (us++[])))
  (H':∀(T:Addr)(kV doc pm:AA)(an:Option Addr)(cdv ct:AA)(us:List AA),(us++[Value.none]).length=ps.length->∃k,bindArgs (fnOf "__init__" qual (b_ st) (bT st) (aG st) (.ref T) kV doc pm an cdv ct) ⟨us,[]⟩=seqItems? (.ref T) >>= k/\k (some #[.none])=pure (ps.zip (us++[.none]))):Nonempty (Yv K mg x qual st ps C):=by
 obtain⟨a,cl,f,M,oc,oT,od,an,dT,sl,sT,kV,dc,pm,cd,ct,T,nT,l,c,k,e⟩:=e;have F:Il K "__init__" qual st f _ T:=⟨⟨_,_,_,_,_,_,_,_,_,rfl,l,c⟩,k,⟨_,_,e,rfl⟩⟩;exact⟨⟨_,_,_,F,F.binds (H T),F.binds (H' T),M,mg_of X G a⟩⟩
def Yv.Zb{x qual:Str}{st:Stmt}{ps:List Str}{k:Nat}{sp:Sp}(h:Yv K mg x qual st ps C)(P:AC)(w:World)(base:Heap)(G:bH P w K mg base (mz P w) k h.f h.fd ps sp):Yx P w K mg base (k+1) C x ps sp:=⟨h.f,h.fd,k,bc _,G,h.M,h.b,h.bd,h.m⟩
end
end _L
namespace _K
open PySem _L
def top(i:Nat):Stmt:=PySem.Challenge.pw_waithands_k34_led_on.main.body.getD i (.Pass ⟨0,0,0,0⟩)
abbrev su:Stmt:=top 9
abbrev GP:Stmt:=top 11
abbrev nu:Stmt:=top 12
abbrev pP:Stmt:=top 13
abbrev jW:Stmt:=top 16
abbrev pR:Stmt:=top 17
abbrev GQ:Stmt:=top 19
abbrev gR:Stmt:=top 21
abbrev nA:Stmt:=top 22
abbrev jV:Stmt:=top 23
abbrev nq:Stmt:=top 24
abbrev jX:Stmt:=top 32
abbrev jY:Stmt:=top 33
abbrev jf:Stmt:=top 34
abbrev je:Stmt:=top 35
abbrev vV:Stmt:=top 37
abbrev vY:Stmt:=top 38
abbrev rW:Stmt:=top 39
abbrev A_:Stmt:=top 40
abbrev rY:Stmt:=top 41
abbrev vX:Stmt:=top 42
abbrev jc:Stmt:=top 43
abbrev rZ:Stmt:=top 44
abbrev sr:Stmt:=top 45
abbrev qL:Stmt:=top 46
abbrev vW:Stmt:=top 47
abbrev Ba:Stmt:=top 48
abbrev jd:Stmt:=top 49
abbrev pQ:Stmt:=top 50
abbrev vU:Stmt:=top 51
abbrev gU:Stmt:=inClass (top 31) 0
abbrev lH:Stmt:=inClass (top 31) 1
abbrev gD:Stmt:=inClass (top 31) 2
abbrev fB:Stmt:=inClass (top 31) 3
abbrev jZ:Stmt:=inClass (top 31) 6
abbrev jg:Stmt:=inClass (top 31) 7
abbrev jh:Stmt:=inClass (top 31) 8
abbrev j0:Stmt:=inClass (top 31) 9
abbrev lG:Stmt:=inClass (top 31) 12
abbrev lF:Stmt:=inClass (top 31) 14
structure Bi(mg:Str->Option AA):Prop where
 all:mg "all" = none
 isinstance:mg "isinstance" = none
 str:mg "str" = none
 len:mg "len" = none
 max:mg "max" = none
 min:mg "min" = none
 sum:mg "sum" = none
 list:mg "list" = none
 reversed:mg "reversed" = none
 range:mg "range" = none
 tuple:mg "tuple" = none
 enumerate:mg "enumerate" = none
 set:mg "set" = none
 abs:mg "abs" = none
 int:mg "int" = none
 bool:mg "bool" = none
 zip:mg "zip" = none
 dict:mg "dict" = none
structure Co(K:Frag)(mg:Str->Option AA):Prop where
 abo:GT2 K mg "WHATS" Ve
 OVER:Gs mg "OVER" "over"
 UNDER:Gs mg "UNDER" "under"
 EACH:Gs mg "EACH" "each"
 LETTERS:Gs mg "LETTERS" "abcdefghijklmnopqrstuvwxyz"
 Dd:Gi mg "MOST_LETTERS" 8
 Ik:Gi mg "MOST_HANDS" 12
 CZ:Gi mg "TRIPLES_SEEN" 3
 Ij:Gi mg "MOST_POSTS" 5
local macro_rules | `(tactic| walk_at "c")=>`(tactic| exact⟨rfl,rfl,rfl,by decide +kernel,rfl,by decide +kernel,by decide +kernel⟩)
local macro_rules | `(tactic| ext)=>`(tactic| simp only[_L.start,jk,List.map_nil,fC,pW,Nat.reduceAdd,Nat.reduceSub,List.replicate,List.cons_append,Bf,oX,
 rO,R5,ZK,ZJ,Vk,Aq,fj,Vo,Sh,Sg,O9,Sw,if_true,if_false,x_,Bool.not_true,Bool.not_false,Sv,Su,WR,WM,WQ,WL,Sx,Sy,O_,Ss,WN,aai,tC,R4,tUn,SJ,rI,rU,Og,ZX,tOr,ZP,Vq,acM,Vj,ZR,mZ,YF,pH,Ao,tB,Oo,tSl,IK,Vh,aa4,ZM,ZQ,acK,Vn,Od,tBM,acN,ZW,Vi,Vp,ipI,Vm,ZV,tFv,tJs,tJ1,tJ0,acL,Oq,Oh,xPe,ZC,xIf,acC,Vd,acG,xPs,acD,acF,acB,Zz,acE,aal,aan,Wn,Wz,Du,Wm,IV,Vx,Dw,Om,Vc])
section
variable{P:AC}{w:World}{K:Frag}{mg:Str->Option AA}{base:Heap}{f:Addr}{fd:FuncData}{k:Nat}
theorem E_{X:Cx}:mX X (binaryOp .FloorDiv) (rI (fun _ j=>0<j/\j<10 ^ 60) fun i j=>.int (i / j)):=opI fun i j _ _ _ _ _ hc q=>by
 have h1:(0:Int)<j:=hc.1;have h2:j<10 ^ 60:=hc.2;refine PyProof.Rows.floordiv_int ∅ (by rw[Int.fdiv_eq_ediv_of_nonneg i ∅]; exact q) (.inl (PyProof.noPylong_of_log2 ?_))
 have:j.natAbs<10 ^ 60:=by omega
 by_cases z:j.natAbs=0
 ·omega
 ·have h3:j.natAbs<2 ^ 1000:=Ec this (by decide +kernel)
  have:=(Nat.log2_lt z).mpr h3;omega
structure km where
 w:Str
 s:Nat
 g:Str
 n:Int
 t:Int
def Bc(r:km):PyData:=.tuple [.str r.w,.int r.s,.str r.g,.int r.n,.int r.t]
def v9(rs:List km):PyData:=.tuple (rs.map Bc)
def vZ(ji:List (List km)):PyData:=.tuple (ji.map v9)
structure xR(r:km):Prop where
 w:r.w∈(["come","done","wait"]:List Str)
 s:1<=r.s/\r.s<=4
 n:0<=r.n/\r.n<=1000000000000
 e:r.g = "each" -> 1<=r.n
def mQ(l:List Int):PyData:=.tuple (l.map .int)
def Gw(eG:List (List Int)):PyData:=.tuple (eG.map mQ)
structure qy(eG:List (List Int)):Prop where
 n:eG.length=4
 l:∀x∈eG,x.length=3
def yU(w:Str)(s:Nat)(eG:List (List Int)):Int:=((eG.take s).map fun l=>l.getD (jU w) 0).sum
def says(r:km)(h:Int)(eG:List (List Int)):Option Int:=
 if r.g = "each" then some ((yU r.w r.s eG+r.n*r.s-1) / (r.n*r.s))
 else if(r.g = "over" /\ yU r.w r.s eG>r.n*r.s)\/(r.g = "under" /\ yU r.w r.s eG<r.n*r.s) then some (h+r.t) else none
def Vv:Option Int->V
 | none=>.non
 | some i=>.int i
def mJ(h:Int)(eG:List (List Int)):List km->Int
 | []=>h
 | r::rs=>match says r h eG with
  | some i=>i
  | none=>mJ h eG rs
def topOf(h:Int):List Int->Int
 | []=>h
 | b::r=>oZ b r
def yO(ji:List (List km))(l m h:Int)(eG:List (List Int)):Int:=
 let x:=topOf h (ji.map (mJ h eG))
 let y:=if l>x then l else x
 if m<y then m else y
theorem Kv(w:Str):jU w<3:=by
 unfold jU;split
 ·decide
 ·split <;> decide
theorem bz{H:Hp}{ds:List PyData}{v:V}(h:At H (.tuple ds) v):∃a xs,v=.ref a/\H a=some (.tup xs)/\aj H ds xs:=by unfold At at h; exact h
theorem aj.aP{H:Hp}{d:PyData}{ds:List PyData}{xs:List V}(h:aj H (d::ds) xs):∃x r,xs=x::r/\At H d x/\aj H ds r:=by unfold aj at h; exact h
theorem aj.gQ{H:Hp}{xs:List V}(h:aj H [] xs):xs=[]:=by unfold aj at h; exact h
theorem cX{G:Hp}:∀{cs:List Int}{xs:List V},aj G (cs.map PyData.int) xs->xs=cs.map V.int
 | [],xs,h=>by unfold aj at h; exact h
 | c::cs,xs,h=>by
  obtain⟨x,r,rfl,h1,h2⟩:=aj.aP h;unfold At at h1;rw[h1,cX h2]; rfl
theorem dB{H:Hp}:∀cs:List Int,aj H (cs.map .int) (cs.map V.int)
 | []=>aj.nil
 | c::cs=>aj.cons (At.int c) (dB cs)
theorem row_shape{H:Hp}{r:km}{v:V}(h:At H (Bc r) v):∃a,v=.ref a/\H a=some (.tup [.str r.w,.int r.s,.str r.g,.int r.n,.int r.t]):=by
 obtain⟨a,xs,rfl,h1,h2⟩:=bz h;obtain⟨x1,_,rfl,a1,h2⟩:=aj.aP h2;obtain⟨x2,_,rfl,a2,h2⟩:=aj.aP h2;obtain⟨x3,_,rfl,a3,h2⟩:=aj.aP h2;obtain⟨x4,_,rfl,a4,h2⟩:=aj.aP h2;obtain⟨x5,_,rfl,a5,h2⟩:=aj.aP h2;cases aj.gQ h2;unfold At at a1 a2 a3 a4 a5;subst a1 a2 a3 a4 a5;exact⟨a,rfl,h1⟩
theorem Kf{K:Frag}{js:List Nat}{a:Addr}{xs:List V}{ds:List PyData}{f:Nat->Int}{tl te:TE}{σ:St}{H:Hp}{Q:VK}(hl:∀R:VK,R (.ref a) H->tl σ H R)(ha:H a=some (.tup xs))(hd:aj H ds xs)(hz:ds.length<=sizeLine)
  (step:∀(i:Nat) x d H',aJ H H'->ds[i]?=some d->At H' d x->∀R:VK,(∀cQ,aJ H' cQ->R (.int (f i)) cQ)->te (some x::bW js σ) H' R)
  (fin:∀acc H',aJ H H'->H' acc=some (.lst (((List.range ds.length).map f).map V.int))->Q (.ref acc) H'):iu js (Ft K tl) te σ H Q:=by
 refine hl _ ⟨a,rfl,⟨xs,dU.of ha⟩,fun acc hacc=>?_⟩;have hlen:=hd.length;refine⟨fun i m ys H2=>m=ds.length-i/\i<=ds.length/\ys=((List.range i).map f).map V.int/\aJ H H2/\H2 acc=some (.lst ys),⟨_,rfl,eV _,rfl,aM hacc _,aB⟩,?_⟩;rintro i m ys H2 ⟨rfl,hi,rfl,sm,hy⟩;have ht:dU K H2 a xs:=dU.of (sm _ _ ha);by_cases hlt:i<ds.length
 ·refine .inr ⟨⟨xs,xs[i]'∅,ht,cN ∅⟩,fun x H3 y=>?_⟩
  obtain⟨e,y⟩:=y;subst e;obtain⟨d,e1,e2⟩:=hd.get (y xs ht);refine step i x d _ sm e1 (e2.mono sm) _ fun H4 s4=>⟨s4 _ _ hy,?_,ds.length-(i+1),∅,rfl,hlt,?_,?_,aB⟩
  ·rw[bZ,bZ,List.length_range]; omega
  ·rw[List.range_succ]; simp
  ·refine fun b o q=>?_;have nb:b≠acc:=cC q hacc;rw[aC nb];exact s4 _ _ (sm _ _ q)
 ·have e:i=ds.length:=by omega
  subst e;exact .inl ⟨⟨xs,ht,∅⟩,fin _ _ sm hy⟩
def CT(K:Frag)(js:List Nat)(te:TE)(σ:St)(Q:VK)(x:V)(H1:Hp):Prop:=iu js (Ft K (fun _ H R=>R x H)) te σ H1 Q
theorem yW{K:Frag}{js:List Nat}{tl te:TE}{σ:St}{H:Hp}{Q:VK}:iu js (Ft K tl) te σ H Q=tl σ H (CT K js te σ Q):=rfl
def GF:Sp:=fun vs H Q _=>∃(v u:V)(h:Int)(r:km)(eG:List (List Int)),vs=[v,.int h,u]/\At H (Bc r) v/\At H (Gw eG) u/\xR r/\qy eG/\∀H',aJ H H'->Q (Vv (says r h eG)) H'
theorem aeE.of{v u:V}{h:Int}{r:km}{eG:List (List Int)}{H:Hp}{Q:VK}{E:XK}(a1:At H (Bc r) v)(a2:At H (Gw eG) u)(h1:xR r)(h2:qy eG)(q:∀H',aJ H H'->Q (Vv (says r h eG)) H'):GF ([v,.int h,u]++[]) H Q E:=⟨v,u,h,r,eG,rfl,a1,a2,h1,h2,q⟩
theorem xW{eG:List (List Int)}{w:Str}{s:Nat}:((List.range (eG.take s).length).map fun i=>((eG.take s).getD i []).getD (jU w) 0).sum=yU w s eG:=by
 unfold yU
 congr 1
 generalize eG.take s=l
 apply Jl
 ·simp
 ·intro i h1 h2;simp at h1 h2;simp[iI,h2]
theorem tR:aX ["row","hands","newest","what","span","sign","number","step","place","total","mark"] AD (aG pP):=(by walk_at "c")
theorem Fd(F:i_ K "row_says" "row_says" pP f fd)(B:Bi mg)(O:Co K mg):bH P w K mg base ig (k+1) f fd AD GF:=by
 refine F.ok tR (hbody:=(0:))
 obtain⟨v,u,h,r,eG,rfl,a1,a2,hR,hN,q⟩:=h;have ND:=tR.nd;refine⟨_,(aq (dF (pv 0) (bQ (K:=K) (n:=5) rfl rfl (aD (aF (i:=3)) (aD (aF (i:=4)) (aD (aF (i:=5)) (aD (aF (i:=6)) (aD (aF (i:=7)) bO))))))) (aq (aU (i:=8) (gY (K:=K) rfl PySem.F.plainAttrs_tuple PySem.F.slot_tuple_index PySem.F.type_tuple_index (LC (K:=K) rfl) (Tj (K:=K) rfl O.abo) (ao (pv 3) ak))) (aq (aU (i:=9) (pb (fZ rfl) B.sum n_ (ao (dH (N':=["triple","place"]) (js:=[8]) rfl (uW (K:=K) rfl (cW jN (pv 2) eZ (dG (pv 4)))) uq.mk1 rfl ⋯ rfl (fun fp s' H'=>(bx bh (pv 0) (pv 1) (fun _ _=>rfl)))) ak))) (aq (aU (i:=10) (aO jt (pv 6) (pv 4))) (aq (cM (bu iB (pv 5) (Br O.EACH) (bf _)) (aH (a_ (aO E_ (aO j6 (aO bA (pv 9) (pv 10)) aA) (pv 10)))) bF) (aq (cM (PW.pt (qR (PW.pt (Bl (bu iB (pv 5) (Br O.OVER) (bf _)) (uU (bu zQ (pv 9) (pv 10) (bf _))))) (lL (PW.pt (Bl (bu iB (pv 5) (Br O.UNDER) (bf _)) (uU (bu ud (pv 9) (pv 10) (bf _)))))))) (aH (a_ (aO bA (pv 1) (pv 7)))) bF) (aH (a_ iR)))))))),?_⟩
 obtain⟨a,rfl,h1⟩:=row_shape a1;obtain⟨b,xs,rfl,h2,h3⟩:=bz a2;ext;refine⟨a,_,rfl,dU.of h1,rfl,?_⟩;ext;intro aw ho hw;refine⟨.inr (.inl ⟨rfl,ho⟩),aw,r.w,rfl,hw _,rfl,hR.w,?_⟩;show iu _ _ _ _ _ _;rw[yW];ext;refine⟨b,xs,rfl,h2,fun p H1 s1 e1=>?_⟩;rw[xG ∅,qN] at e1
 have h3':aj H1 ((eG.take r.s).map mQ) (xs.take r.s):=by rw[List.map_take]; exact(h3.take r.s).mono s1
 have hs4:=hR.s;have htl:(eG.take r.s).length<=4:=by rw[iJ]; omega
 refine Kf (a:=p) (f:=fun i=>((eG.take r.s).getD i []).getD (jU r.w) 0) (fun R hR=>hR) e1 h3' (lK (aR (by rw[bZ]; omega))) (fun i x d H' s' ed hx R hR'=>?_) (fun acc H' s' hl=>?_)
 ·rw[cD] at ed;obtain⟨l,el,rfl⟩:=Ju.mp ed;have l3:l.length=3:=hN.l l (wy (dN el));obtain⟨c,ys,rfl,g1,g2⟩:=bz hx;cases cX g2;show R4 _ _ _ [some _,some (.int (jU r.w:Nat))] H' R;ext;have hw:=Kv r.w;refine Ix.tup g1 (v:=.int (l.getD (jU r.w) 0)) (aY (by rw[cD,cN ∅,iI,cN ∅]; rfl)) ?_
  have:=hR' H' (aJ.refl H');have eg:(eG.take r.s).getD i []=l:=by rw[iI,el]; rfl
  rw[eg] at this;exact this
 ·have sm:=s1.trans s';rw[bZ] at hl;refine⟨acc,_,rfl,.inl hl,.inl (by have:=hR.n; omega),?_⟩
  rw[xW];have q1:=q H' sm;unfold says at q1;refine dC (fun c1=>?_) (fun c1=>?_)
  ·have c1':=Bj c1;rw[aV c1'] at q1;have h1n:=hR.e c1';have hpos:0<r.n*(r.s:Int):=Int.mul_pos ∅ ∅
   have hup:r.n*(r.s:Int)<=1000000000000*4:=Int.mul_le_mul hR.n.2 ∅ ∅ ⋯
   exact⟨⟨hpos,Int.lt_of_le_of_lt hup ⋯⟩,q1⟩
  ·have c1':=Lb c1;rw[aN c1'] at q1;generalize yU r.w r.s eG=tot at q1 ⊢;generalize r.n*(r.s:Int)=mark at q1 ⊢;by_cases o1:r.g = "over"
   ·have u1:¬r.g = "under" := by rw[o1]; decide +kernel
    rw[mU o1,aV rfl];by_cases o2:mark<tot
    ·rw[mU o2,aV rfl];rw[aV (.inl ⟨o1,o2⟩)] at q1; exact q1
    ·rw[j4 o2,aN ⋯,j4 u1,aN ⋯]
     rw[aN (fun z=>by rcases z with z | z; exact o2 z.2; exact u1 z.1)] at q1; exact q1
   ·rw[j4 o1,aN ⋯]
    by_cases u1:r.g = "under"
    ·rw[mU u1,aV rfl];by_cases o2:tot<mark
     ·rw[mU o2,aV rfl];rw[aV (.inr ⟨u1,o2⟩)] at q1; exact q1
     ·rw[j4 o2,aN ⋯]
      rw[aN (fun z=>by rcases z with z | z; exact o1 z.1; exact o2 z.2)] at q1; exact q1
    ·rw[j4 u1,aN ⋯]
     rw[aN (fun z=>by rcases z with z | z; exact o1 z.1; exact u1 z.1)] at q1; exact q1
def Wu:Sp:=fun vs H Q _=>∃(v u:V)(h:Int)(rs:List km)(eG:List (List Int)),vs=[v,.int h,u]/\At H (v9 rs) v/\At H (Gw eG) u/\(∀r∈rs,xR r)/\qy eG/\∀H',aJ H H'->Q (.int (mJ h eG rs)) H'
theorem Rw.of{v u:V}{h:Int}{rs:List km}{eG:List (List Int)}{H:Hp}{Q:VK}{E:XK}(a1:At H (v9 rs) v)(a2:At H (Gw eG) u)(h1:∀r∈rs,xR r)(h2:qy eG)(q:∀H',aJ H H'->Q (.int (mJ h eG rs)) H'):Wu ([v,.int h,u]++[]) H Q E:=⟨v,u,h,rs,eG,rfl,a1,a2,h1,h2,q⟩
theorem qJ:aX ["rule","hands","newest","row","said"] AE (aG nu):=(by walk_at "c")
theorem BJ(F:i_ K "rule_wish" "rule_wish" nu f fd)(qt:Ct P w K mg base k "row_says" AD GF):bH P w K mg base ig (k+1) f fd AE Wu:=by
 refine F.ok qJ (hbody:=(0:))
 obtain⟨v,u,h,rs,eG,rfl,a1,a2,hR,hN,q⟩:=h;have ND:=qJ.nd;refine⟨_,(aq (iQ PassesOwn.never rfl (uW (K:=K) rfl (pv 0)) (aF (i:=3)) (aq (aU (i:=4) (pf qt hr (ao (pv 3) (ao (pv 1) (ao (pv 2) ak))))) (aH (cM (bu uX (pv 4) iR (bf _)) (aH (a_ (pv 4))) bF)))) (aH (a_ (pv 1)))),?_⟩
 obtain⟨a,xs,rfl,h1,h2⟩:=bz a1;have hlen:=h2.length;rw[bZ] at hlen;ext;rw[Oj];ext;refine TK.of h1 (fun n σ H'=>∃o1 o2,σ=[some (.ref a),some (.int h),some u,o1,o2]/\aJ H H'/\mJ h eG (rs.drop n)=mJ h eG rs) ⟨_,_,rfl,aJ.refl H,rfl⟩ (fun n σ H' _ ⟨o1,o2,_,sm,_⟩=>sm _ _ h1) ?_ ?_
 ·rintro n x σ H1 hx ⟨o1,o2,rfl,sm,e⟩;obtain⟨d,e1,e2⟩:=h2.get hx;rw[cD] at e1;obtain⟨r,er,rfl⟩:=Ju.mp e1
  have hn:n<rs.length:=by
   obtain⟨z,_⟩:=iW.mp er; exact z
  have ed:rs.drop n=r::rs.drop (n+1):=by
   rw[G8 hn];obtain⟨z,ez⟩:=iW.mp er;rw[ez]
  rw[ed,mJ] at e;ext;refine aeE.of (e2.mono sm) (a2.mono sm) (hR r (dN er)) hN fun H2 s2=>?_;have s2:=sm.trans s2;cases es:says r h eG with
  | none=>
   rw[es] at e;refine⟨trivial,?_⟩;exact⟨_,_,rfl,s2,e⟩
  | some i=>
   rw[es] at e;refine⟨trivial,?_⟩;have e:i=mJ h eG rs:=e;show Q (.int i) H2;rw[e]; exact q H2 s2
 ·rintro σ H1 ⟨o1,o2,rfl,sm,e⟩;ext;rw[hlen,xZ] at e;have e:h=mJ h eG rs:=e;rw[e];have:=q H1 sm;rw[<- e] at this ⊢;exact this
def Py(d0 d1 d3 d4 d5:PyData)(l m:Int)(ji:List (List km)):PyData:=.tuple [d0,d1,.tuple [.int l,.int m],d3,d4,d5,vZ ji]
def Ov:Sp:=fun vs H Q _=>∃(v u:V)(h l m:Int)(d0 d1 d3 d4 d5:PyData)(ji:List (List km))(eG:List (List Int)),vs=[v,.int h,u]/\At H (Py d0 d1 d3 d4 d5 l m ji) v/\At H (Gw eG) u/\(∀rs∈ji,∀r∈rs,xR r)/\ji.length<=100/\qy eG /\
 ∀H',aJ H H'->Q (.int (yO ji l m h eG)) H'
theorem Ji:aX ["post","hands","newest","least","most","wishes","wished"] AF (aG GP):=(by walk_at "c")
theorem TY(F:i_ K "wish" "wish" GP f fd)(B:Bi mg)(nY:Ct P w K mg base k "rule_wish" AE Wu):bH P w K mg base ig (k+1) f fd AF Ov:=by
 refine F.ok Ji (hbody:=(0:))
 obtain⟨v,u,h,l,m,d0,d1,d3,d4,d5,ji,eG,rfl,a1,a2,hR,hn,hN,q⟩:=h;have ND:=Ji.nd;refine⟨_,(aq (dF (bx bh (pv 0) aA (fun _ _=>rfl)) (bQ (K:=K) (n:=2) rfl rfl (aD (aF (i:=3)) (aD (aF (i:=4)) bO)))) (aq (S9 (i:=5) ND rfl (by walk_at "o") (N':=["rule","hands","newest"]) (js:=[1,2]) rfl (uW (K:=K) rfl (bx bh (pv 0) aA (fun _ _=>rfl))) uq.mk2 rfl ⋯ rfl (fun fp s' H'=>(pf nY hr (ao (pv 0) (ao (pv 1) (ao (pv 2) ak)))))) (aq (aU (i:=6) (Tq rfl B.max (ao (pv 5) ak) (pv 1))) (aH (a_ (pb (gb rfl) B.min mq (ao (pb (lB rfl) B.max tM (ao (pv 6) (ao (pv 3) ak))) (ao (pv 4) ak)))))))),?_⟩
 obtain⟨a,xs,rfl,h1,h2⟩:=bz a1;obtain⟨x0,_,rfl,b0,h2⟩:=aj.aP h2;obtain⟨x1,_,rfl,b1,h2⟩:=aj.aP h2;obtain⟨x2,_,rfl,b2,h2⟩:=aj.aP h2;obtain⟨x3,_,rfl,b3,h2⟩:=aj.aP h2;obtain⟨x4,_,rfl,b4,h2⟩:=aj.aP h2;obtain⟨x5,_,rfl,b5,h2⟩:=aj.aP h2;obtain⟨x6,_,rfl,b6,h2⟩:=aj.aP h2;cases aj.gQ h2;obtain⟨c,ys,rfl,g1,g2⟩:=bz b2;obtain⟨y0,_,rfl,k0,g2⟩:=aj.aP g2;obtain⟨y1,_,rfl,k1,g2⟩:=aj.aP g2;cases aj.gQ g2;unfold At at k0 k1;subst k0 k1;obtain⟨e,zs,rfl,m1,m2⟩:=bz b6;ext;refine Ix.tup h1 (aY (j:=2) rfl) ⟨c,_,rfl,dU.of g1,rfl,?_⟩;ext;rw[yW];ext;refine Ix.tup h1 (aY (j:=6) rfl) ?_;refine Kf (a:=e) (f:=fun i=>mJ h eG (ji.getD i [])) (fun R hR=>hR) m1 m2 (lK (aR (by rw[bZ]; omega))) (fun i x d H' s' ed hx R hR'=>?_) (fun acc H' s' hl=>?_)
 ·rw[cD] at ed;obtain⟨rs,el,rfl⟩:=Ju.mp ed;show mZ _ _ _ _ [some x,some (.int h),some u] H' R;ext;refine Rw.of hx (a2.mono s') (hR rs (dN el)) hN fun H2 s2=>?_;have:=hR' H2 s2;have eg:ji.getD i []=rs:=by rw[iI,el]; rfl
  rw[eg] at this;exact this
 ·rw[bZ] at hl
  have el:(List.range ji.length).map (fun i=>mJ h eG (ji.getD i []))=ji.map (mJ h eG):=by
   apply Jl
   ·simp
   ·intro i h1 h2;simp at h1 h2;simp[iI,h2]
  rw[el] at hl;have q1:=q H' s';unfold yO topOf at q1;refine⟨acc,_,rfl,hl,fun en=>?_,fun b r er=>?_⟩
  ·rw[en] at q1;exact q1
  ·rw[er] at q1;exact q1
def uQ:Sp:=fun vs H Q _=>∃(v x:V)(a:Addr)(r:Int)(b:Addr)(ns:List Int)(u:List V),v=.ref a/\vs=[v]/\H a=some (.tup (x::.int r::.ref b::u))/\H b=some (.tup (ns.map V.int))/\Q (.int (r+ns.sum)) H
theorem tV:aX ["stand"] ["stand"] (aG pR):=(by walk_at "c")
theorem Ff(F:i_ K "hands_of" "hands_of" pR f fd)(B:Bi mg):bH P w K mg base ig (k+1) f fd ["stand"] uQ:=by
 refine F.ok tV (hbody:=(0:))
 obtain⟨v,x,a,r,b,ns,u,rfl,rfl,h1,h2,q⟩:=h;have ND:=tV.nd;refine⟨_,(aH (a_ (aO bA (bx bh (pv 0) aA (fun _ _=>rfl)) (pb (fZ rfl) B.sum n_ (ao (bx bh (pv 0) aA (fun _ _=>rfl)) ak))))),?_⟩;ext;refine⟨a,_,1,_,rfl,rfl,.inr h1,aY (j:=1) rfl,?_⟩;refine⟨a,_,2,_,rfl,rfl,.inr h1,aY (j:=2) rfl,?_⟩;refine⟨b,ns,rfl,.inr h2,?_⟩;exact⟨_,_,rfl,rfl,q⟩
theorem QL{X:Cx}:abv X (fun o i H Q=>∃(p:Addr)(xs:List V)(j:Nat)(v:V),o=.ref p/\i=.int j/\H p=some (.lst xs)/\xs[j]?=some v/\Q v H):=by
 intro ae s σ H o i ov iv Q I ro ri h;obtain⟨p,xs,j,v,rfl,rfl,hp,hv,q⟩:=h;cases ro;obtain⟨t,rfl⟩:=ri;obtain⟨its,r,pl,hz⟩:=I.list (cz.of (K:=X.K) hp);obtain⟨w,ew,Bb⟩:=r.get hv;have hl:=r.length;have hn:=p_;have hj:j<xs.length:=by obtain⟨z,_⟩:=iW.mp hv; exact z
 exact wpAny_getItem_list pl.isList ∅ ∅ (by simpa using ew) ⟨v,H,I,Bb,q⟩
theorem Uk{n j:Nat}(h:j<n):Qu n (j:Int)=some j:=by
 unfold Qu;rw[aV ∅,aV ∅,qN]
structure gP where
 w:Int
 r:Int
 cs:List Int
 s:Int
 t:Int
 us:List (List Int)
def xU(x:gP):PyData:=.tuple [.int x.w,.int x.r,.tuple (x.cs.map .int),.int x.s,.int x.t,.tuple (x.us.map mQ)]
structure Ih(x:gP):Prop where
 c:x.cs.length=5
 u:x.us.length=3
 l:∀y∈x.us,y.length=3
structure fU where
 p:Int
 m:Int
 lo:Int
 hi:Int
 a:Nat
 e:Int
 u:Int
 d:Int
 ji:List (List km)
def jq(x:fU):PyData:=Py (.int x.p) (.int x.m) (.int x.a) (.int x.e) (.tuple [.int x.u,.int x.d]) x.lo x.hi x.ji
structure Ro(x:fU):Prop where
 a:x.a<=4
 p:0<=x.p/\x.p<=1000000
 n:x.ji.length<=100
 g:∀rs∈x.ji,∀r∈rs,xR r
theorem sS{H:Hp}{x:fU}{v:V}(h:At H (jq x) v):∃a b c d,v=.ref a/\H a=some (.tup [.int x.p,.int x.m,.ref b,.int x.a,.int x.e,.ref c,.ref d])/\H c=some (.tup [.int x.u,.int x.d]):=by
 obtain⟨a,xs,rfl,h1,h2⟩:=bz h;obtain⟨x0,_,rfl,b0,h2⟩:=aj.aP h2;obtain⟨x1,_,rfl,b1,h2⟩:=aj.aP h2;obtain⟨x2,_,rfl,b2,h2⟩:=aj.aP h2;obtain⟨x3,_,rfl,b3,h2⟩:=aj.aP h2;obtain⟨x4,_,rfl,b4,h2⟩:=aj.aP h2;obtain⟨x5,_,rfl,b5,h2⟩:=aj.aP h2;obtain⟨x6,_,rfl,b6,h2⟩:=aj.aP h2;cases aj.gQ h2;unfold At at b0 b1 b3 b4;subst b0 b1 b3 b4;obtain⟨b,ys,rfl,_,_⟩:=bz b2;obtain⟨c,zs,rfl,g1,g2⟩:=bz b5;obtain⟨d,ws,rfl,_,_⟩:=bz b6;obtain⟨y0,_,rfl,k0,g2⟩:=aj.aP g2;obtain⟨y1,_,rfl,k1,g2⟩:=aj.aP g2;cases aj.gQ g2;unfold At at k0 k1;subst k0 k1;exact⟨a,b,c,d,rfl,h1,g1⟩
theorem y_{H:Hp}{x:gP}{v:V}(h:At H (xU x) v):∃a b c,v=.ref a/\H a=some (.tup [.int x.w,.int x.r,.ref b,.int x.s,.int x.t,.ref c])/\H b=some (.tup (x.cs.map V.int))/\At H (.tuple (x.us.map mQ)) (.ref c):=by
 obtain⟨a,xs,rfl,h1,h2⟩:=bz h;obtain⟨x0,_,rfl,b0,h2⟩:=aj.aP h2;obtain⟨x1,_,rfl,b1,h2⟩:=aj.aP h2;obtain⟨x2,_,rfl,b2,h2⟩:=aj.aP h2;obtain⟨x3,_,rfl,b3,h2⟩:=aj.aP h2;obtain⟨x4,_,rfl,b4,h2⟩:=aj.aP h2;obtain⟨x5,_,rfl,b5,h2⟩:=aj.aP h2;cases aj.gQ h2;unfold At at b0 b1 b3 b4;subst b0 b1 b3 b4;obtain⟨b,ys,rfl,g1,g2⟩:=bz b2;cases cX g2;obtain⟨c,zs,rfl,_,_⟩:=bz b5;exact⟨a,b,c,rfl,h1,g1,b5⟩
def Az(e s:Int):Int:=if s+1<e then s+1 else 0
def B_(e s t:Int):Bool:=if s+1<e then false else decide (t=0)
def Jd:Sp:=fun vs H Q _=>∃(v:V)(x:fU)(s t:Int),vs=[v,.int s,.int t]/\At H (jq x) v/\∀p H',aJ H H'->H' p=some (.tup [.int (Az x.e s),.bl (B_ x.e s t)])->Q (.ref p) H'
theorem jO:aX ["post","since","rest","every"] ["post","since","rest"] (aG gR):=(by walk_at "c")
theorem qT(F:i_ K "since_and_look" "since_and_look" gR f fd):bH P w K mg base ig (k+1) f fd ["post","since","rest"] Jd:=by
 refine F.ok jO (hbody:=(0:))
 obtain⟨v,x,sn,t,rfl,a1,q⟩:=h;have ND:=jO.nd;refine⟨_,(aq (aU (i:=3) (bx bh (pv 0) aA (fun _ _=>rfl))) (aq (cM (bu ud (aO bA (pv 1) aA) (pv 3) (bf _)) (aH (a_ (bw (ao (aO bA (pv 1) aA) (ao jr ak))))) bF) (aH (a_ (bw (ao aA (ao (du iB (pv 2) aA (bf _)) ak))))))),?_⟩
 obtain⟨a,b,c,d,rfl,h1,h2⟩:=sS a1;ext;refine Ix.tup h1 (aY (j:=4) rfl) ?_;ext;refine dC (fun c1=>?_) (fun c1=>?_)
 ·have c1':=Bj c1;refine⟨⋯,fun p H1 f1 s1 e1=>q p H1 s1 ?_⟩
  unfold Az B_;rw[aV c1',aV c1']; exact e1
 ·have c1':=Lb c1;refine⟨⋯,fun p H1 f1 s1 e1=>q p H1 s1 ?_⟩
  unfold Az B_;rw[aN c1',aN c1']; exact e1
def Cw(x:fU)(h fr:Int)(eG:List (List Int)):Int:=if fr<yO x.ji x.lo x.hi h eG-h then fr else yO x.ji x.lo x.hi h eG-h
def Dy:Sp:=fun vs H Q _=>∃(v u:V)(x:fU)(h fr:Int)(eG:List (List Int)),vs=[v,.int h,u,.int fr]/\At H (jq x) v/\At H (Gw eG) u/\Ro x/\qy eG/\∀H',aJ H H'->Q (.int (Cw x h fr eG)) H'
theorem qK:aX AG AG (aG nA):=(by walk_at "c")
theorem BK(F:i_ K "change_of" "change_of" nA f fd)(B:Bi mg)(HS:Ct P w K mg base k "wish" AF Ov):bH P w K mg base ig (k+1) f fd AG Dy:=by
 refine F.ok qK (hbody:=(0:))
 obtain⟨v,u,x,h,fr,eG,rfl,a1,a2,hP,hN,q⟩:=h;have ND:=qK.nd;refine⟨_,(aH (a_ (pb (gb rfl) B.min mq (ao (aO j6 (pf HS hr (ao (pv 0) (ao (pv 1) (ao (pv 2) ak)))) (pv 1)) (ao (pv 3) ak))))),?_⟩;ext;refine⟨v,u,h,x.lo,x.hi,_,_,_,_,_,x.ji,eG,rfl,a1,a2,hP.g,hP.n,hN,fun H1 s1=>?_⟩;ext;exact q H1 s1
def bC:List Int->Int->List Int×Int
 | [],n=>([],n)
 | c::cs,n=>((c-(if(bC cs n).2<c then(bC cs n).2 else c))::(bC cs n).1,(bC cs n).2-(if(bC cs n).2<c then(bC cs n).2 else c))
theorem qb:∀(cs:List Int)(n:Int),(bC cs n).1.length=cs.length
 | [],_=>rfl
 | c::cs,n=>by rw[bC,fC,fC,qb cs n]
def Oz:Sp:=fun vs H Q _=>∃(r n:Int)(b:Addr)(cs:List Int),vs=[.int r,.ref b,.int n]/\H b=some (.tup (cs.map V.int))/\cs.length<=100/\∀p b' H',aJ H H'->H' p=some (.tup [.int (r-(bC cs n).2),.ref b'])->H' b'=some (.tup ((bC cs n).1.map V.int))->Q (.ref p) H'
theorem qI:aX ["ready","called","many","left","place","gone"] AH (aG nq):=(by walk_at "c")
theorem Bx(F:i_ K "sent_home" "sent_home" nq f fd)(B:Bi mg):bH P w K mg base ig (k+1) f fd AH Oz:=by
 refine F.ok qI (hbody:=(0:))
 obtain⟨r,n,b,cs,rfl,h1,hlen,q⟩:=h;have ND:=qI.nd;refine⟨_,(aq (aU (i:=3) (pt (MK) B.list fP (ao (pv 1) ak))) (aq (iQ PassesOwn.never rfl (W_ B.reversed B.range (ao (pb (cu (K:=K) rfl) B.len dq (ao (pv 3) ak)) ak)) (aF (i:=4)) (aq (aU (i:=5) (pb (gb rfl) B.min mq (ao (bx bh (pv 3) (pv 4) (fun _ _=>rfl)) (ao (pv 2) ak)))) (aq (S_ (pv 3) (pv 4) QL (pv 5) Ht set_list) (aH (Bp (i:=2) ND rfl (by walk_at "o") (pv 5) Ht))))) (aH (a_ (bw (ao (aO j6 (pv 0) (pv 2)) (ao (pt (oO) B.tuple jH (ao (pv 3) ak)) ak))))))),?_⟩
 ext;refine⟨b,_,rfl,h1,fun p1 f1=>?_⟩;have s1:=aM f1 (HO.lst (cs.map V.int));have e1:upd H p1 (HO.lst (cs.map V.int)) p1=some (.lst (cs.map V.int)):=aB;generalize upd H p1 (HO.lst (cs.map V.int))=H1 at s1 e1 ⊢;rw[Ol];ext;refine⟨p1,_,rfl,.inl (cz.of e1),?_⟩;rw[bZ];refine VK'.of (n:=cs.length) rfl ∅ (fun i σ H'=>∃o4 o5:Option V,σ=[some (.int r),some (.ref b),some (.int (bC (cs.drop (cs.length-i)) n).2),some (.ref p1),o4,o5]/\H' p1=some (.lst ((cs.take (cs.length-i)++(bC (cs.drop (cs.length-i)) n).1).map V.int))/\aJ H H')
  ⟨_,_,by rw[Nat.sub_zero,xZ]; rfl,by rw[Nat.sub_zero,xZ,mV]; simpa[bC] using e1,s1⟩ ?_ ?_
 ·rintro i σ H2 hi ⟨o4,o5,rfl,h2,s2⟩;obtain⟨j,ej⟩:∃j:Nat,cs.length-i=j+1:=⟨cs.length-i-1,∅⟩
  have ej2:cs.length-(i+1)=j:=by omega
  have ei:(cs.length:Int)-1-(i:Nat)=(j:Nat):=by omega
  rw[ej] at h2;rw[ei,ej,ej2];have hj:j<cs.length:=by omega
  have dj:cs.drop j=cs[j]::cs.drop (j+1):=G8 hj;have tj:cs.take (j+1)=cs.take j++[cs[j]]:=by rw[List.take_succ,cN hj]; rfl
  rw[dj,bC];generalize bC (cs.drop (j+1)) n=gh at h2 ⊢;rw[tj] at h2;generalize cs[j]=cj at h2 ⊢;have lt:(cs.take j).length=j:=by rw[iJ]; omega
  have gj:((cs.take j++[cj]++gh.1).map V.int)[j]?=some (.int cj):=by
   rw[cD,G5,uy ∅,lt,wA]; rfl
  ext;refine Ix.lst h2 (aY gj) ?_;ext;refine⟨p1,_,j,_,rfl,rfl,h2,gj,?_⟩;ext;refine⟨p1,_,_,j,rfl,rfl,h2,Uk (by rw[bZ,cF,cF,lt]; show j<j+1+_; omega),?_⟩
  refine⟨_,rfl,_,_,rfl,rfl,_,_,rfl,?_,fun z o w=>?_⟩
  ·rw[aB]
   congr 2
   have e:cs.take j++[cj]++gh.1=cs.take j++(cj::gh.1):=by simp
   rw[e,gk,gk,List.set_append_right _ _ (by rw[bZ]; omega),bZ,lt,wA]
   rfl
  ·rw[aC (cC w f1)];exact s2 _ _ w
 ·rintro σ H2 ⟨o4,o5,rfl,h2,s2⟩;rw[wA,List.drop_zero,List.take_zero,Bf] at h2;rw[wA,List.drop_zero];ext;refine⟨p1,_,rfl,h2,fun p3 f3=>?_⟩;have s3:=aM f3 (HO.tup ((bC cs n).1.map V.int));have e3:upd H2 p3 (HO.tup ((bC cs n).1.map V.int)) p3=some (.tup ((bC cs n).1.map V.int)):=aB;generalize upd H2 p3 (HO.tup ((bC cs n).1.map V.int))=H3 at s3 e3 ⊢;refine⟨⋯,fun p4 H4 f4 s4 e4=>?_⟩
  exact q p4 p3 H4 (s2.trans (s3.trans s4)) e4 (s4 _ _ e3)
def gA(x:fU)(st:gP)(ch:Int):gP:=
 if ch=0 then st else if 0<ch then { st with cs:=st.cs.take x.a++[st.cs.getD x.a 0+ch]++st.cs.drop (x.a+1),t:=x.u }
 else { st with r:=st.r-(bC st.cs (-ch)).2,cs:=(bC st.cs (-ch)).1,t:=x.d }
def GC:Sp:=fun vs H Q _=>∃(v u:V)(x:fU)(st:gP)(ch:Int),vs=[v,u,.int ch]/\At H (jq x) v/\At H (xU st) u/\Ro x/\Ih st/\∀u' H',aJ H H'->At H' (xU (gA x st ch)) u'->Q u' H'
theorem m6:aX ["post","stand","change","late","rests","wait","ready","called","since","rest","seen"] AI (aG jV):=(by walk_at "c")
theorem wH(F:i_ K "with_change" "with_change" jV f fd)(B:Bi mg)(nW:Ct P w K mg base k "sent_home" AH Oz):bH P w K mg base ig (k+1) f fd AI GC:=by
 refine F.ok m6 (hbody:=(0:))
 obtain⟨v,u,x,st,ch,rfl,a1,a2,hP,hS,q⟩:=h;have ND:=m6.nd;refine⟨_,(aq (cM (bu iB (pv 2) aA (bf _)) (aH (a_ (pv 1))) bF) (aq (Bo (i:=3) (j:=4) rfl ND rfl rfl ⋯ rfl rfl (ao (bx bh (pv 0) aA (fun _ _=>rfl)) (ao (bx bh (pv 0) aA (fun _ _=>rfl)) ak)) (by rfl)) (aq (dF (pv 1) (bQ (K:=K) (n:=6) rfl rfl (aD (aF (i:=5)) (aD (aF (i:=6)) (aD (aF (i:=7)) (aD (aF (i:=8)) (aD (aF (i:=9)) (aD (aF (i:=10)) bO)))))))) (aq (cM (bu zQ (pv 2) aA (bf _)) (aq (aU (i:=7) (aO uY (aO uY (cW jN (pv 7) eZ (dG (pv 3))) (bw (ao (aO bA (bx bh (pv 7) (pv 3) (fun _ _=>rfl)) (pv 2)) ak))) (cW jN (pv 7) (dG (aO bA (pv 3) aA)) eZ))) (aH (aU (i:=9) (bx bh (pv 4) aA (fun _ _=>rfl))))) (aq (dF (pf nW hr (ao (pv 6) (ao (pv 7) (ao (VH NP (pv 2)) ak)))) (bQ (K:=K) (n:=2) rfl rfl (aD (aF (i:=6)) (aD (aF (i:=7)) bO)))) (aH (aU (i:=9) (bx bh (pv 4) aA (fun _ _=>rfl)))))) (aH (a_ (bw (ao (pv 5) (ao (pv 6) (ao (pv 7) (ao (pv 8) (ao (pv 9) (ao (pv 10) ak))))))))))))),?_⟩
 ext;refine dC (fun c1=>?_) (fun c1=>?_)
 ·have:=q u H (aJ.refl H);unfold gA at this;rw[aV (Bj c1)] at this;exact this a2
 have c1':=Lb c1;obtain⟨pa,pb,pc,pd,rfl,p1,p2⟩:=sS a1;obtain⟨sa,sb,sc,rfl,g1,g2,g3⟩:=y_ a2;have ha4:=hP.a;have hc5:=hS.c;refine Ix.tup p1 (aY (j:=3) rfl) (Ix.tup p1 (aY (j:=5) rfl) ⟨_,_,rfl,?_⟩);refine⟨sa,_,rfl,dU.of g1,rfl,?_⟩;ext;refine dC (fun c2=>?_) (fun c2=>?_)
 ·have c2':=Bj c2
  have ga:(st.cs.map V.int)[x.a]?=some (.int (st.cs.getD x.a 0)):=by
   rw[cD,cN ∅,iI,cN ∅]; rfl
  refine⟨sb,_,rfl,g2,fun p3 H3 s3 e3=>?_⟩;rw[xG ∅,qN] at e3
  refine Ix.tup (s3 _ _ g2) (aY ga) ?_;ext;refine⟨⋯,fun p4 H4 f4 s4 e4=>?_⟩
  refine⟨p3,p4,_,_,rfl,rfl,s4 _ _ e3,e4,lK (aR (by simp; omega)),fun p5 H5 s5 e5=>?_⟩
  ext;have s35:=s3.trans (s4.trans s5);refine⟨sb,_,rfl,s35 _ _ g2,fun p6 H6 s6 e6=>?_⟩;rw[lA ∅] at e6
  refine⟨p5,p6,_,_,rfl,rfl,s6 _ _ e5,e6,lK (aR (by simp; omega)),fun p7 H7 s7 e7=>?_⟩
  have s37:=s35.trans (s6.trans s7);ext;refine Ix.tup (s37 _ _ p2) (aY (j:=0) rfl) ⟨⋯,fun p8 H8 f8 s8 e8=>?_⟩
  have s38:=s37.trans s8;refine q (.ref p8) H8 s38 ?_;unfold gA;rw[aN c1',aV c2'];refine At.tup e8 (aj.cons (At.int _) (aj.cons (At.int _) (aj.cons (At.tup (s8 _ _ e7) ?_) (aj.cons (At.int _) (aj.cons (At.int _) (aj.cons (g3.mono s38) aj.nil))))));have e:(((x.a:Int)+1).toNat)=x.a+1:=by omega
  rw[e];have:=dB (H:=H8) (st.cs.take x.a++[st.cs.getD x.a 0+ch]++st.cs.drop (x.a+1));simpa using this
 ·have c2':=Lb c2;refine⟨st.r,-ch,sb,st.cs,rfl,g2,∅,fun p3 b3 H3 s3 e3 e4=>?_⟩
  refine⟨p3,_,rfl,dU.of e3,rfl,?_⟩;ext;refine Ix.tup (s3 _ _ p2) (aY (j:=1) rfl) ⟨⋯,fun p8 H8 f8 s8 e8=>?_⟩
  have s38:=s3.trans s8;refine q (.ref p8) H8 s38 ?_;unfold gA;rw[aN c1',aN ∅]
  exact At.tup e8 (aj.cons (At.int _) (aj.cons (At.int _) (aj.cons (At.tup (s8 _ _ e4) (dB _)) (aj.cons (At.int _) (aj.cons (At.int _) (aj.cons (g3.mono s38) aj.nil))))))
def cY(x:fU)(st:gP)(come:Int):Int:=if(if 0>x.m-st.w then 0 else x.m-st.w)<come then(if 0>x.m-st.w then 0 else x.m-st.w) else come
def eO(st:gP):Int:=st.r+st.cs.getD 0 0
def gJ(x:fU)(st:gP)(come:Int):Int:=if eO st*x.p<st.w+cY x st come then eO st*x.p else st.w+cY x st come
def h_(x:fU)(st:gP)(come:Int):List (List Int):=[come,gJ x st come,st.w+cY x st come-gJ x st come]::st.us
def jw(x:fU)(st:gP)(come:Int):gP:=⟨st.w+cY x st come-gJ x st come,eO st,st.cs.drop 1++[0],Az x.e st.s,if 0>st.t-1 then 0 else st.t-1,(h_ x st come).take 3⟩
def xM(x:fU)(st:gP)(come fr:Int):Int:=if B_ x.e st.s st.t=true then Cw x (eO st+(st.cs.drop 1++[0]).sum) fr (h_ x st come) else 0
def OJ:Sp:=fun vs H Q _=>∃(v u:V)(x:fU)(st:gP)(come fr:Int),vs=[v,u,.int come,.int fr]/\At H (jq x) v/\At H (xU st) u/\Ro x/\Ih st /\
 ∀p u' H',aJ H H'->At H' (xU (gA x (jw x st come) (xM x st come fr))) u'->H' p=some (.tup [u',.int (gJ x st come),.int (come-cY x st come),.int (xM x st come fr)])->Q (.ref p) H'
theorem Jj:aX ["post","stand","come","free","pace","room","wait","ready","called","since","rest","seen","taken","done","newest","looks","moved","change"] AJ (aG GQ):=(by walk_at "c")
theorem Fo{x:fU}{st:gP}{come:Int}(h:Ih st):Ih (jw x st come):=by
 refine⟨?_,?_,fun y hy=>?_⟩
 ·show(st.cs.drop 1++[0]).length=5;have:=h.c;simp; omega
 ·show((h_ x st come).take 3).length=3;have:=h.u;unfold h_;simp; omega
 ·have hy:=wy hy;unfold h_ at hy;rcases bK.mp hy with z | z
  ·rw[z]; rfl
  ·exact h.l y z
theorem JN{T:Addr}{tk:Tok}(F:Im K "beat" "beat" GQ f fd T 12 tk)(B:Bi mg)(O:Co K mg)(e_:Ct P w K mg base k "since_and_look" ["post","since","rest"] Jd)(jR:Ct P w K mg base k "change_of" AG Dy)(dh:Ct P w K mg base k "hands_of" ["stand"] uQ)
  (ie:Ct P w K mg base k "with_change" AI GC):bH P w K mg base ig (k+1) f fd AJ OJ:=by
 refine F.ok Jj (hbody:=(0:))
 obtain⟨v,u,x,st,come,fr,rfl,a1,a2,hP,hS,q⟩:=h;have ND:=Jj.nd;refine⟨_,(aq (dF (cW jN (pv 0) eZ (dG aA)) (bQ (K:=K) (n:=2) rfl rfl (aD (aF (i:=4)) (aD (aF (i:=5)) bO)))) (aq (dF (pv 1) (bQ (K:=K) (n:=6) rfl rfl (aD (aF (i:=6)) (aD (aF (i:=7)) (aD (aF (i:=8)) (aD (aF (i:=9)) (aD (aF (i:=10)) (aD (aF (i:=11)) bO)))))))) (aq (Bp (i:=7) ND rfl (by walk_at "o") (bx bh (pv 8) aA (fun _ _=>rfl)) Qy) (aq (aU (i:=8) (aO uY (cW jN (pv 8) (dG aA) eZ) (bw (ao aA ak)))) (aq (aU (i:=12) (pb (gb rfl) B.min mq (ao (pv 2) (ao (pb (lB rfl) B.max tM (ao (aO j6 (pv 5) (pv 6)) (ao aA ak))) ak)))) (aq (Bp (i:=6) ND rfl (by walk_at "o") (pv 12) Qy) (aq (aU (i:=13) (pb (gb rfl) B.min mq (ao (pv 6) (ao (aO jt (pv 7) (pv 4)) ak)))) (aq (Bp (i:=6) ND rfl (by walk_at "o") (pv 13) Ht) (aq (aU (i:=14) (aO uY (bw (ao (bw (ao (pv 2) (ao (pv 13) (ao (pv 6) ak)))) ak)) (pv 11))) (aq (dF (pf e_ hr (ao (pv 0) (ao (pv 9) (ao (pv 10) ak)))) (bQ (K:=K) (n:=2) rfl rfl (aD (aF (i:=9)) (aD (aF (i:=15)) bO)))) (aq (aU (i:=16) (bw (ao (pv 6) (ao (pv 7) (ao (pv 8) (ao (pv 9) (ao (pb (lB rfl) B.max tM (ao (aO j6 (pv 10) aA) (ao aA ak))) (ao (cW jN (pv 14) eZ (dG (Bs O.CZ))) ak)))))))) (aq (aU (i:=17) (eQ (dD (pv 15)) (pf jR hr (ao (pv 0) (ao (pf dh hr (ao (pv 16) ak)) (ao (pv 14) (ao (pv 3) ak))))) aA)) (aH (a_ (bw (ao (pf ie hr (ao (pv 0) (ao (pv 16) (ao (pv 17) ak)))) (ao (pv 13) (ao (aO j6 (pv 2) (pv 12)) (ao (pv 17) ak))))))))))))))))))),?_⟩
 obtain⟨pa,pb,pc,pd,rfl,p1,p2⟩:=sS a1;obtain⟨sa,sb,sc,rfl,g1,g2,g3⟩:=y_ a2;have hc5:=hS.c;have hpp:=hP.p
 have gc0:(st.cs.map V.int)[0]?=some (.int (st.cs.getD 0 0)):=by
  rw[cD,cN ∅,iI,cN ∅]; rfl
 ext;refine⟨pa,_,rfl,p1,fun q1 H1 s1 e1=>?_⟩;rw[xG ⋯] at e1
 replace e1:H1 q1=some (.tup [.int x.p,.int x.m]):=e1
 refine⟨q1,_,rfl,dU.of e1,rfl,?_⟩;ext;refine⟨sa,_,rfl,dU.of (s1 _ _ g1),rfl,?_⟩;ext;refine⟨_,rfl,Ix.tup (s1 _ _ g2) (aY gc0) ⟨_,_,rfl,rfl,?_⟩⟩;refine⟨sb,_,rfl,s1 _ _ g2,fun q2 H2 s2 e2=>?_⟩;rw[lA ⋯] at e2
 have s12:=s1.trans s2;refine⟨⋯,fun q3 H3 f3 s3 e3=>?_⟩
 refine⟨q2,q3,_,_,rfl,rfl,s3 _ _ e2,e3,lK (aR (by simp; omega)),fun q4 H4 s4 e4=>?_⟩
 have R9:=s12.trans (s3.trans s4);ext;refine⟨_,rfl,_,_,rfl,rfl,.inr ∅,_,rfl,_,_,rfl,rfl,⋯,fun q5 H5 f5 s5 e5=>⟨⋯,fun q6 H6 f6 s6 e6=>?_⟩⟩
 replace e5:H5 q5=some (.tup [.int come,.int (gJ x st come),.int (st.w+cY x st come-gJ x st come)]):=e5
 obtain⟨sc',us',ec,gu,au⟩:=bz g3;cases ec;have s16:=R9.trans (s5.trans s6);have lus:us'.length=3:=by have:=au.length; rw[bZ,hS.u] at this; exact this
 refine⟨q6,sc,_,_,rfl,rfl,e6,s16 _ _ gu,lK (aR (by simp; omega)),fun q7 H7 s7 e7=>?_⟩
 have s17:=s16.trans s7;have a7:At H7 (Gw (h_ x st come)) (.ref q7):=At.tup e7 (aj.cons (At.tup ((s6.trans s7) _ _ e5) (dB [come,gJ x st come,st.w+cY x st come-gJ x st come])) (au.mono s17))
 have hN:qy (h_ x st come):=⟨by show st.us.length+1=4; rw[hS.u],fun y hy=>by
  rcases bK.mp hy with z | z
  ·rw[z]; rfl
  ·exact hS.l y z⟩
 refine⟨.ref pa,x,st.s,st.t,rfl,a1.mono s17,fun q8 H8 s8 e8=>?_⟩;refine⟨q8,_,rfl,dU.of e8,rfl,?_⟩;ext;have s18:=s17.trans s8;obtain⟨q7',nws,en,gn,an⟩:=bz (a7.mono s8);cases en;refine⟨q7,_,rfl,gn,fun q9 H9 s9 e9=>?_⟩;rw[xG ⋯] at e9
 have s19:=s18.trans s9;refine⟨⋯,fun q10 Rr f10 Gj e10=>?_⟩
 have aag:=s19.trans Gj;have e4':H4 q4=some (.tup ((st.cs.drop 1++[0]).map V.int)):=by rw[e4]; simp
 have aab:aJ H4 Rr:=s5.trans (s6.trans (s7.trans (s8.trans (s9.trans Gj))))
 have am:At Rr (xU (jw x st come)) (.ref q10):=by
  refine At.tup e10 (aj.cons (At.int _) (aj.cons (At.int _) (aj.cons (At.tup (aab _ _ e4') (dB _)) (aj.cons (At.int _) (aj.cons (At.int _) (aj.cons (At.tup (Gj _ _ e9) ?_) aj.nil))))));show aj Rr (((h_ x st come).take 3).map mQ) _;rw[List.map_take];exact(an.take 3).mono (s9.trans Gj)
 have fin:∀(c:Int)(Va:Hp),xM x st come fr=c->aJ Rr Va->GC [.ref pa,.ref q10,.int c] Va (fun y H1=>4<=sizeLine/\∀p H',H1 p=none->aJ H1 H'->H' p=some (.tup [y,.int (gJ x st come),.int (come-cY x st come),.int c])->Q (.ref p) H') E0:=fun c Va ec Ru=>by
  subst ec;have aaf:=aag.trans Ru;exact⟨.ref pa,.ref q10,x,jw x st come,_,rfl,a1.mono aaf,am.mono Ru,hP,Fo hS,fun u' H12 acV a12=>⟨⋯,fun q13 H13 f13 Jk X_=>q q13 u' H13 (aaf.trans (acV.trans Jk)) (a12.mono Jk) X_⟩⟩
 refine dC (fun c1=>?_) (fun c1=>?_)
 ·refine⟨.ref q10,_,q10,eO st,q4,st.cs.drop 1++[0],_,rfl,rfl,e10,aab _ _ e4',?_⟩;refine⟨.ref pa,.ref q7,x,_,fr,h_ x st come,rfl,a1.mono aag,a7.mono (s8.trans (s9.trans Gj)),hP,hN,fun Va Ru=>?_⟩;exact fin _ Va (by unfold xM; rw[aV c1]) Ru
 ·exact fin 0 Rr (by unfold xM; rw[aN (by rw[c1]; decide)]) (aJ.refl _)
local macro_rules | `(tactic| walk_at "cap")=>`(tactic| simp only[bW,jk,List.map_nil,List.getElem?_cons_zero,List.getElem?_cons_succ,Option.join_some])
def Ow(K:Frag):Sp:=fun vs H Q _=>∃(s:Addr)(ns:List Int)(i:Int),vs=[.ref s,.int i]/\cz K H s (ns.map V.int)/\0<=i/\i<=1000/\∀p H',H p=none->aJ H H'->Tp H' p 0->Q (.ref p) H'
theorem zf:aX ["_law_script","_law_k","_law_cell"] AK (aG vV):=(by walk_at "c")
theorem Lp(F:i_ K "_law_tape" "_law_tape" vV f fd)(B:Bi mg):bH P w K mg base ig (k+1) f fd AK (Ow K):=by
 refine F.ok zf (hbody:=(0:))
 obtain⟨a,ns,i,rfl,hS,h0,h1,q⟩:=h;have ND:=zf.nd;refine⟨_,(aq (aU (i:=2) (eQ (bu ud (pv 1) (pb (cu (K:=K) rfl) B.len dq (ao (pv 0) ak)) (bf _)) (bx JZ (pv 0) (pv 1) (fun _ _=>rfl)) aA)) (aH (a_ (Xd (ao (aO jt (pb (FQ) B.abs Rh (ao (pv 2) ak)) (pt (Ae) B.int Ib (ao (du aaA (pb (FQ) B.abs Rh (ao (pv 2) ak)) (aO pY aA aA) (bf _)) ak))) (ao (aO bA (aO bA (aO lO (pv 2) aA) (aO jt aA (pv 1))) aA) (ao aA ak))))))),?_⟩
 ext;refine⟨a,_,rfl,.inl hS,?_⟩;show ∃i_1 j,V.int i=V.int i_1/\V.int ((ns.map V.int).length:Int)=V.int j/\_;ext;have Yk:∀c:Int,0<=(if c<0 then -c else c):=fun c=>by split <;> omega
 have fin:∀(c x y:Int),x=(if c<0 then -c else c)*(if decide (10 ^ Int.toNat 18<=(if c<0 then -c else c))=true then 1 else 0)->y=c % 2305843009213693951+39373*i+17->∀p,H p=none->Q (.ref p) (upd H p (.lst [.int x,.int y,.int 0])):=fun c x y ex ey p hp=>by
  have hx:0<=x:=by
   rw[ex];have nn:=Yk c;generalize (if c<0 then -c else c)=u at nn ⊢
   split
   ·rw[Int.mul_one]; exact nn
   ·rw[Int.mul_zero]; exact zp 0
  have h2:=wu c (show(2305843009213693951:Int)≠0 by decide)
  have h3:=Bk c (show(0:Int)<2305843009213693951 by decide)
  exact q p _ hp (aM hp _) ⟨x,y,0,aB,hx,∅,∅,zp 0,zp 0⟩
 have cm:∀(c:Int)(b:Bool),Vb c (if b=true then 1 else 0):=fun c b=>.inr (by cases b <;> decide)
 refine dC (fun c1=>?_) (fun c1=>?_)
 ·have c1':=Bj c1;have hi:i.toNat<ns.length:=by rw[bZ] at c1'; omega
  refine⟨a,_,i,.int (ns[i.toNat]),rfl,rfl,hS,?_,?_⟩
  ·have:=aY (xs:=ns.map V.int) (j:=i.toNat) (v:=.int (ns[i.toNat])) (by rw[cD,cN hi]; rfl)
   rwa [show((i.toNat:Nat):Int)=i by omega] at this
  ·ext;refine⟨⟨⋯,⋯,⋯⟩,cm _ _,⋯,.inl ⋯,(by show 3<=sizeLine; decide),fun p hp=>?_⟩
   exact fin _ _ _ rfl rfl p hp
 ·refine⟨⟨⋯,⋯,⋯⟩,cm _ _,⋯,.inl ⋯,(by show 3<=sizeLine; decide),fun p hp=>?_⟩
  exact fin 0 _ _ rfl rfl p hp
def gC:Sp:=fun vs H Q _=>∃(a:Addr)(m:Int)(n:Nat),vs=[.ref a,.int m]/\Tp H a n/\n<=1000000000/\0<m/\m<1000000000000000/\∀v H',0<=v->v<m->Tp H' a (n+1)->SX a H H'->Q (.int v) H'
theorem zm:aX ["_law_tape_here","_law_many","_law_found","_law_once","_law_twice"] AL (aG vY):=(by walk_at "c")
theorem Ls(F:i_ K "_law_draw" "_law_draw" vY f fd)(B:Bi mg):bH P w K mg base ig (k+1) f fd AL gC:=by
 refine F.ok zm (hbody:=(0:))
 obtain⟨a,m,n,rfl,⟨x,y,z,hT,hx,hy,hy2,hz,hz2⟩,hn,hm,hm2,q⟩:=h;have ND:=zm.nd;refine⟨_,(aq (cM (bu zQ (bx bh (pv 0) aA (fun _ _=>rfl)) aA (bf _)) (aq (aU (i:=2) (aO lO (bx bh (pv 0) aA (fun _ _=>rfl)) (pv 1))) (aq (dF (aO E_ (bx bh (pv 0) aA (fun _ _=>rfl)) (pv 1)) (nD (pv 0) aA set_list)) (aH (a_ (pv 2))))) bF) (aq (dF (aO bA (bx bh (pv 0) aA (fun _ _=>rfl)) aA) (nD (pv 0) aA set_list)) (aq (aU (i:=3) (aO lO (aO pY (aO bA (bx bh (pv 0) aA (fun _ _=>rfl)) (aO jt aA (bx bh (pv 0) aA (fun _ _=>rfl)))) aA) aA)) (aq (aU (i:=4) (aO lO (aO jt (aO bA (pv 3) (bx bh (pv 0) aA (fun _ _=>rfl))) (aO bA (aO bA (aO lO (pv 3) aA) aA) (bx bh (pv 0) aA (fun _ _=>rfl)))) aA)) (aH (a_ (aO lO (aO Tw (aO lO (aO bA (aO jt (pv 4) aA) (pv 3)) aA) aA) (pv 1)))))))),?_⟩
 ext;refine Ix.lst hT (aY (j:=0) rfl) ?_;ext;refine dC (fun c1=>?_) (fun c1=>?_)
 ·refine Ix.lst hT (aY (j:=0) rfl) ?_;ext;refine⟨hm,Ix.lst hT (aY (j:=0) rfl) ?_⟩;ext;refine⟨⟨hm,Int.lt_trans hm2 ⋯⟩,a,_,0,0,rfl,rfl,hT,rfl,?_⟩
  refine q _ _ (wu _ ∅) (Bk _ hm) ⟨x / m,y,z,aB,Int.ediv_nonneg hx ∅,hy,hy2,hz,∅⟩ SX.upd
 ·refine Ix.lst hT (aY (j:=2) rfl) ?_;ext;refine⟨a,_,2,2,rfl,rfl,hT,rfl,?_⟩;have hT2:upd H a (.lst [.int x,.int y,.int (z+1)]) a=some (.lst [.int x,.int y,.int (z+1)]):=aB;show DP (V.ref a) (V.int 1) (upd H a (.lst [.int x,.int y,.int (z+1)])) _;generalize eH:upd H a (.lst [.int x,.int y,.int (z+1)])=H2 at hT2 ⊢;have sx:SX a H H2:=by rw[<- eH]; exact SX.upd
  refine Ix.lst hT2 (aY (j:=1) rfl) (Ix.lst hT2 (aY (j:=2) rfl) ?_);ext;refine⟨.inl ⋯,⟨⋯,⋯,∅⟩,⋯,Ix.lst hT2 (aY (j:=2) rfl) ?_⟩
  generalize eo:(y+39373*(z+1)) ^ Int.toNat 5 % 2147483647=o;have o1:0<=o:=by rw[<- eo]; exact wu _ ⋯
  have o2:o<2147483647:=by rw[<- eo]; exact Bk _ ⋯
  ext;refine⟨⋯,Ix.lst hT2 (aY (j:=2) rfl) ?_⟩
  ext;have m1:=wu o (show(40009:Int)≠0 by decide)
  have m2:=Bk o (show(0:Int)<40009 by decide)
  refine⟨.inl ∅,⋯,?_⟩
  generalize et:(o+(z+1))*(o % 40009+7+(z+1)) % 2147483629=t;have t1:0<=t:=by rw[<- et]; exact wu _ ⋯
  have t2:t<2147483629:=by rw[<- et]; exact Bk _ ⋯
  refine⟨.inl ∅,⋯,⟨⋯,⋯⟩,hm,?_⟩
  exact q _ _ (wu _ ∅) (Bk _ hm) ⟨x,y,z+1,hT2,hx,hy,hy2,∅,∅⟩ sx
theorem cL.of{a:Addr}{m:Int}{n:Nat}{H:Hp}{Q:VK}{E:XK}(t:Tp H a n)(hn:n<=1000000000)(h1:0<m)(h2:m<1000000000000000)(q:∀v H',0<=v->v<m->Tp H' a (n+1)->SX a H H'->Q (.int v) H'):gC ([.ref a,.int m]++[]) H Q E:=⟨a,m,n,rfl,t,hn,h1,h2,q⟩
def qH:Sp:=fun vs H Q _=>∃(a:Addr)(n:Nat),vs=[.ref a]/\Tp H a n/\n<=900000000/\∀v H',0<=v->v<=1000000000000->Tp H' a (n+4)->SX a H H'->Q (.int v) H'
theorem V8.of{a:Addr}{n:Nat}{H:Hp}{Q:VK}{E:XK}(t:Tp H a n)(hn:n<=900000000)(q:∀v H',0<=v->v<=1000000000000->Tp H' a (n+4)->SX a H H'->Q (.int v) H'):qH ([.ref a]++[]) H Q E:=⟨a,n,rfl,t,hn,q⟩
theorem vN:aX ["_law_tape_here","_law_way","_law_great"] AM (aG rW):=(by walk_at "c")
theorem Hc(F:i_ K "_law_units" "_law_units" rW f fd)(B:Bi mg)(aK:Ct P w K mg base k "_law_draw" AL gC):bH P w K mg base ig (k+1) f fd AM qH:=by
 refine F.ok vN (hbody:=(0:))
 obtain⟨a,n,rfl,tp,hn,q⟩:=h;have ND:=vN.nd;refine⟨_,(aq (aU (i:=1) (pf aK hr (ao (pv 0) (ao aA ak)))) (aq (cM (bu ud (pv 1) aA (bf _)) (aH (a_ (pf aK hr (ao (pv 0) (ao aA ak))))) bF) (aq (cM (bu iB (pv 1) aA (bf _)) (aH (a_ (pf aK hr (ao (pv 0) (ao aA ak))))) bF) (aq (aU (i:=2) (aO bA (aO jt (pf aK hr (ao (pv 0) (ao (aO pY aA aA) ak))) (aO pY aA aA)) (pf aK hr (ao (pv 0) (ao (aO pY aA aA) ak))))) (aH (a_ (eQ (bu iB (pv 1) aA (bf _)) (pv 2) (aO j6 (aO pY aA aA) (aO lO (pv 2) aA))))))))),?_⟩
 ext;refine cL.of tp ∅ ⋯ ⋯ fun v1 H1 l1 u1 t1 s1=>?_
 ext;refine dC (fun c1=>?_) (fun c1=>?_)
 ·refine cL.of t1 ∅ ⋯ ⋯ fun v2 H2 l2 u2 t2 s2=>?_
  exact q v2 H2 l2 ∅ (t2.mono ∅) (s1.trans s2)
 ·refine dC (fun c2=>?_) (fun c2=>?_)
  ·refine cL.of t1 ∅ ⋯ ⋯ fun v2 H2 l2 u2 t2 s2=>?_
   exact q v2 H2 l2 ∅ (t2.mono ∅) (s1.trans s2)
  ·refine⟨⟨⋯,⋯,⋯⟩,?_⟩
   refine cL.of t1 ∅ ⋯ ⋯ fun v2 H2 l2 u2 t2 s2=>?_
   ext;have e6:(10:Int) ^ Int.toNat 6=1000000:=by decide
   have V4:(10:Int) ^ Int.toNat 12=1000000000000:=by decide
   rw[e6] at u2;refine⟨⟨⋯,⋯,⋯⟩,.inr ⋯,⟨⋯,⋯,⋯⟩,?_⟩
   refine cL.of t2 ∅ ⋯ ⋯ fun v3 H3 l3 u3 t3 s3=>?_
   rw[e6] at u3;ext;rw[e6,V4];refine dC (fun c3=>?_) (fun c3=>?_)
   ·exact q _ H3 ∅ ∅ (t3.mono ∅) (s1.trans (s2.trans s3))
   ·have m1:=wu (v2*1000000+v3) (show(3:Int)≠0 by decide)
    have m2:=Bk (v2*1000000+v3) (show(0:Int)<3 by decide)
    exact⟨⟨⋯,⋯,⋯⟩,⋯,q _ H3 ∅ ∅ (t3.mono ∅) (s1.trans (s2.trans s3))⟩
def U12(i:Int):Prop:=0<=i/\i<=1000000000000
def abr(u:List Int):Prop:=∃a b c,u=[a,b,c]/\U12 a/\U12 b/\U12 c
structure StL(x:gP):Prop where
 w:U12 x.w
 r:0<=x.r
 c:x.cs.length=5
 cn:∀y∈x.cs,0<=y
 sm:x.r+x.cs.sum<=12
 s:0<=x.s/\x.s<=5
 t:0<=x.t/\x.t<=9
 u:x.us.length=3
 ul:∀y∈x.us,abr y
theorem RV{x:fU}{st:gP}{ch:Int}(hx:Ro x)(hs:Ih st):Ih (gA x st ch):=by
 have hc:=hs.c;have ha:=hx.a;unfold gA;split
 ·exact hs
 ·split
  ·refine⟨?_,hs.u,hs.l⟩;simp only[cF,iJ,uw,fC,pW];omega
  ·refine⟨?_,hs.u,hs.l⟩;simp only[qb];exact hc
def Jg:Sp:=fun vs H Q _=>∃(v:V)(x:fU),vs=[v]/\At H (jq x) v/\∀u H',aJ H H'->At H' (xU ⟨0,x.lo,[0,0,0,0,0],0,0,[[0,0,0],[0,0,0],[0,0,0]]⟩) u->Q u H'
theorem G9{H:Hp}{x:fU}{v:V}(h:At H (jq x) v):∃a b c d,v=.ref a/\H a=some (.tup [.int x.p,.int x.m,.ref b,.int x.a,.int x.e,.ref c,.ref d])/\H b=some (.tup [.int x.lo,.int x.hi])/\H c=some (.tup [.int x.u,.int x.d])/\At H (vZ x.ji) (.ref d):=by
 obtain⟨a,xs,rfl,h1,h2⟩:=bz h;obtain⟨x0,_,rfl,b0,h2⟩:=aj.aP h2;obtain⟨x1,_,rfl,b1,h2⟩:=aj.aP h2;obtain⟨x2,_,rfl,b2,h2⟩:=aj.aP h2;obtain⟨x3,_,rfl,b3,h2⟩:=aj.aP h2;obtain⟨x4,_,rfl,b4,h2⟩:=aj.aP h2;obtain⟨x5,_,rfl,b5,h2⟩:=aj.aP h2;obtain⟨x6,_,rfl,b6,h2⟩:=aj.aP h2;cases aj.gQ h2;unfold At at b0 b1 b3 b4;subst b0 b1 b3 b4;obtain⟨b,ys,rfl,g3,g4⟩:=bz b2;obtain⟨c,zs,rfl,g1,g2⟩:=bz b5;obtain⟨d,ws,rfl,_,_⟩:=bz b6;cases cX (cs:=[x.u,x.d]) g2;cases cX (cs:=[x.lo,x.hi]) g4;exact⟨a,b,c,d,rfl,h1,g3,g1,b6⟩
theorem m7:aX ["post","least","nothing"] ["post"] (aG jW):=(by walk_at "c")
theorem wI(F:i_ K "first_stand" "first_stand" jW f fd)(B:Bi mg):bH P w K mg base ig (k+1) f fd ["post"] Jg:=by
 refine F.ok m7 (hbody:=(0:))
 obtain⟨pA,x,rfl,a1,q⟩:=h;have ND:=m7.nd;refine⟨_,(aq (aU (i:=1) (bx bh (bx bh (pv 0) aA (fun _ _=>rfl)) aA (fun _ _=>rfl))) (aq (aU (i:=2) (bw (ao aA (ao aA (ao aA ak))))) (aH (a_ (bw (ao aA (ao (pv 1) (ao (bw (ao aA (ao aA (ao aA (ao aA (ao aA ak)))))) (ao aA (ao aA (ao (bw (ao (pv 2) (ao (pv 2) (ao (pv 2) ak)))) ak))))))))))),?_⟩
 obtain⟨pa,pb,pc,pd,rfl,p1,p2,p3,_⟩:=G9 a1;ext;refine Ix.tup p1 (v:=.ref pb) rfl (Ix.tup p2 (v:=.int x.lo) rfl ⟨⋯,fun p4 H4 f4 s4 e4=>⟨⋯,fun p5 H5 f5 s5 e5=>⟨⋯,fun p6 H6 f6 s6 e6=>⟨⋯,fun p7 H7 f7 s7 e7=>?_⟩⟩⟩⟩)
 have s47:=s5.trans (s6.trans s7);refine q _ _ (s4.trans s47) ?_;have tri:At H7 (mQ [0,0,0]) (.ref p4):=At.tup (s47 _ _ e4) (dB [0,0,0]);exact At.tup e7 (aj.cons (At.int _) (aj.cons (At.int _) (aj.cons (At.tup ((s6.trans s7) _ _ e5) (dB [0,0,0,0,0])) (aj.cons (At.int _) (aj.cons (At.int _) (aj.cons (At.tup (s7 _ _ e6) (aj.cons tri (aj.cons tri (aj.cons tri aj.nil)))) aj.nil))))))
theorem iD:∀cs:List Int,bG (cs.map PyData.int)=true
 | []=>rfl
 | c::cs=>by show(uH (.int c)&&bG (cs.map .int))=true; rw[iD cs]; rfl
theorem Ds:∀us:List (List Int),bG (us.map mQ)=true
 | []=>rfl
 | u::us=>by
  show(bG (u.map PyData.int)&&bG (us.map mQ))=true;rw[Ds us,iD u]; rfl
theorem Av(n:gP):uH (xU n)=true:=by
 simp only[xU,uH,bG,iD,Ds,Bool.and_self]
structure U9(r:km):Prop where
 is:xR r
 g:r.g∈(["over","under","each"]:List Str)
 z:r.g = "each" -> r.t=0
 t:r.g ≠ "each" -> -12<=r.t/\r.t<=12/\r.t≠0
def OD:Sp:=fun vs H Q _=>∃(a:Addr)(n:Nat)(b:Bool),vs=[.ref a,.bl b]/\Tp H a n/\n<=800000000/\∀v r H',U9 r->At (hid a H') (Bc r) v->Tp H' a (n+12)->SX a H H'->Q v H'
def Oi(c:TT)(a b:TE):TE:=ZR c a b
theorem adA{c:TT}{b:TE}:ZR c (mR 6) b=Oi c (mR 6) b:=rfl
theorem Oi.of{c:TT}{a b:TE}{σ:St}{H:Hp}{Q:VK}(R:V->Hp->Prop)(hR:∀v H',R v H'->Q v H')(h:∀N:VK,(∀v H',R v H'->N v H')->ZR c a b σ H N):Oi c a b σ H Q:=h _ hR
theorem Row.of{a:Addr}{n:Nat}{b:Bool}{H:Hp}{Q:VK}{E:XK}(t:Tp H a n)(hn:n<=800000000)(q:∀v r H',U9 r->At (hid a H') (Bc r) v->Tp H' a (n+12)->SX a H H'->Q v H'):OD ([.ref a,.bl b]++[]) H Q E:=⟨a,n,b,rfl,t,hn,q⟩
theorem Dz:aX ["_law_tape_here","_law_small","_law_sign","_law_what","_law_span","_law_number","_law_step"] AN (aG A_):=(by walk_at "c")
theorem Qd(F:i_ K "_law_row" "_law_row" A_ f fd)(B:Bi mg)(aK:Ct P w K mg base k "_law_draw" AL gC)(lC:Ct P w K mg base k "_law_units" AM qH):bH P w K mg base ig (k+1) f fd AN OD:=by
 refine F.ok Dz (hbody:=(0:))
 obtain⟨a,n,b,rfl,tp,hn,q⟩:=h;have ND:=Dz.nd;refine⟨_,(aq (aU (i:=2) (bx bh (cG (ao fG (ao fG (ao fG ak)))) (pf aK hr (ao (pv 0) (ao aA ak))) (fun _ _=>rfl))) (aq (aU (i:=3) (bx bh (cG (ao fG (ao fG (ao fG (ao fG ak))))) (pf aK hr (ao (pv 0) (ao aA ak))) (fun _ _=>rfl))) (aq (aU (i:=4) (eQ (dD (pv 1)) (bx bh (cG (ao aA (ao aA (ao aA (ao (aO bA aA (pf aK hr (ao (pv 0) (ao aA ak)))) ak))))) (pf aK hr (ao (pv 0) (ao aA ak))) (fun _ _=>rfl)) (aO bA aA (pf aK hr (ao (pv 0) (ao aA ak)))))) (aq (aU (i:=5) (eQ (dD (pv 1)) (pf aK hr (ao (pv 0) (ao aA ak))) (pf lC hr (ao (pv 0) ak)))) (aq (cM (bu iB (pv 2) fG (bf _)) (aH (a_ (bw (ao (pv 3) (ao (pv 4) (ao (pv 2) (ao (pb (lB rfl) B.max tM (ao aA (ao (pv 5) ak))) (ao aA ak)))))))) bF) (aq (aU (i:=6) (aO bA aA (pf aK hr (ao (pv 0) (ao (eQ (dD (pv 1)) aA aA) ak))))) (aH (a_ (bw (ao (pv 3) (ao (pv 4) (ao (pv 2) (ao (pv 5) (ao (eQ (bu ud (aO bA (pf aK hr (ao (pv 0) (ao aA ak))) (aO jt (pt (Ae) B.int Ib (ao (du iB (pv 2) fG (bf _)) ak)) aA)) aA (bf _)) (pv 6) (aO j6 aA (pv 6))) ak)))))))))))))),?_⟩
 simp only[zb 4,zb 5,zb 6,adA];ext;refine⟨⋯,fun p1 H1 f1 s1 e1=>?_⟩
 refine cL.of (tp.same s1) ∅ ⋯ ⋯ fun y1 H2 l2 u2 t2 s2=>?_
 have n1:p1≠a:=tp.ne f1;obtain⟨g,hg,eg⟩:=zN (ts:=["over","under","each"]) l2 u2;refine Ix.lst (s2.get n1 e1) eg ?_;refine⟨⋯,fun p3 H3 f3 s3 e3=>?_⟩
 refine cL.of (t2.same s3) ∅ ⋯ ⋯ fun y4 H4 l4 u4 t4 s4=>?_
 have n3:p3≠a:=t2.ne f3;obtain⟨w,hw,ew⟩:=zN (ts:=["come","done","wait","wait"]) l4 u4
 have hw':w∈(["come","done","wait"]:List Str):=by
  simp only[bK,fD,or_false] at hw ⊢;rcases hw with z | z | z | z
  ·exact .inl z
  ·exact .inr (.inl z)
  ·exact .inr (.inr z)
  ·exact .inr (.inr z)
 refine Ix.lst (s4.get n3 e3) ew ?_;have sx4:SX a H H4:=(SX.of s1).trans (s2.trans ((SX.of s3).trans s4))
 have fin:∀(sp:Nat)(nn tt:Int)(H8:Hp)(m:Nat),(1<=sp/\sp<=4)->Tp H8 a m->m<=n+12->SX a H H8->(0<=nn/\nn<=1000000000000)->(g = "each" -> 1<=nn)->(g = "each" -> tt=0)->(g ≠ "each" -> -12<=tt/\tt<=12/\tt≠0)->∀p H',H8 p=none->aJ H8 H'->H' p=some (.tup [.str w,.int sp,.str g,.int nn,.int tt])->Q (.ref p) H':=fun sp nn tt H8 m hsp t8 hm s8 hnn hge hz ht p H' fp sp' ep=>by
  have pa:p≠a:=t8.ne fp;refine q _ ⟨w,sp,g,nn,tt⟩ H' ⟨⟨hw',hsp,hnn,hge⟩,hg,hz,ht⟩ (At.tup (by rw[cV pa]; exact ep) ?_) ((t8.same sp').mono hm) (s8.trans (SX.of sp'))
  exact aj.cons (At.str _) (aj.cons (At.int _) (aj.cons (At.str _) (aj.cons (At.int _) (aj.cons (At.int _) aj.nil))))
 cases b with
 | false=>
  show rO _ _ _ _ _;ext;refine cL.of t4 ∅ ⋯ ⋯ fun y5 H5 l5 u5 t5 s5=>?_
  ext;show rO _ _ _ _ _;ext;refine V8.of t5 ∅ fun num H6 l6 u6 t6 s6=>?_
  ext;obtain⟨sp,hsp⟩:∃sp:Nat,1+y5=(sp:Int):=⟨(1+y5).toNat,∅⟩
  rw[hsp];have sx:SX a H H6:=sx4.trans (s5.trans s6);refine dC (fun c1=>?_) (fun c1=>?_)
  ·exact⟨⋯,fin _ _ _ H6 _ ∅ t6 ∅ sx (by split <;> omega) (fun _=>by split <;> omega) (fun _=>rfl) (fun z=>absurd (Bj c1) z)⟩
  ·have c1':=Lb c1;show rO _ _ _ _ _;ext;refine cL.of t6 ∅ ⋯ ⋯ fun y8 H8 l8 u8 t8 s8=>?_
   ext;refine Oi.of (R:=fun v H9=>∃tt:Int,v=.int tt/\(-12<=tt/\tt<=12/\tt≠0)/\Tp H9 a (n+12)/\SX a H H9) ?_ ?_
   ·rintro v H9 ⟨tt,rfl,ht,t9,s9⟩;exact⟨⋯,fin _ _ _ H9 _ ∅ t9 ∅ s9 ⟨l6,u6⟩ (fun z=>absurd z c1') (fun z=>absurd z c1') (fun _=>ht)⟩
   ·intro N hN;ext;refine cL.of t8 ∅ ⋯ ⋯ fun y9 H9 l9 u9 t9 s9=>?_
    ext;refine⟨.inr ⋯,?_⟩
    refine dC (fun c2=>?_) (fun c2=>?_)
    ·exact hN _ _ ⟨_,rfl,∅,t9.mono ∅,sx.trans (s8.trans s9)⟩
    ·exact hN _ _ ⟨_,rfl,∅,t9.mono ∅,sx.trans (s8.trans s9)⟩
 | true=>
  show rO _ _ _ _ _;ext;refine cL.of t4 ∅ ⋯ ⋯ fun y5 H5 l5 u5 t5 s5=>?_
  ext;refine⟨⋯,fun p6 H6 f6 s6 e6=>?_⟩
  refine cL.of (t5.same s6) ∅ ⋯ ⋯ fun y7 H7 l7 u7 t7 s7=>?_
  have n6:p6≠a:=t5.ne f6;obtain⟨x,hx,ex⟩:=oG (ts:=[1,1,1,1+y5]) l7 u7;refine Ix.lst (s7.get n6 e6) ex ?_
  have hx':1<=x/\x<=4:=by
   simp only[bK,fD,or_false] at hx;rcases hx with rfl | rfl | rfl | rfl <;> omega
  show rO _ _ _ _ _;ext;refine cL.of t7 ∅ ⋯ ⋯ fun num H8 l8 u8 t8 s8=>?_
  ext;obtain⟨sp,rfl⟩:∃sp:Nat,x=(sp:Int):=⟨x.toNat,∅⟩
  have sx:SX a H H8:=sx4.trans (s5.trans ((SX.of s6).trans (s7.trans s8)));refine dC (fun c1=>?_) (fun c1=>?_)
  ·exact⟨⋯,fin _ _ _ H8 _ ∅ t8 ∅ sx (by split <;> omega) (fun _=>by split <;> omega) (fun _=>rfl) (fun z=>absurd (Bj c1) z)⟩
  ·have c1':=Lb c1;show rO _ _ _ _ _;ext;refine cL.of t8 ∅ ⋯ ⋯ fun y8 H9 l9 u9 t9 s9=>?_
   ext;refine Oi.of (R:=fun v H9=>∃tt:Int,v=.int tt/\(-12<=tt/\tt<=12/\tt≠0)/\Tp H9 a (n+12)/\SX a H H9) ?_ ?_
   ·rintro v Va ⟨tt,rfl,ht,Z0,Ru⟩;exact⟨⋯,fin _ _ _ Va _ ∅ Z0 ∅ Ru ∅ (fun z=>absurd z c1') (fun z=>absurd z c1') (fun _=>ht)⟩
   ·intro N hN;ext;refine cL.of t9 ∅ ⋯ ⋯ fun y9 Rr l10 u10 t10 Gj=>?_
    ext;refine⟨.inr ⋯,?_⟩
    refine dC (fun c2=>?_) (fun c2=>?_)
    ·exact hN _ _ ⟨_,rfl,∅,t10.mono ∅,sx.trans (s9.trans Gj)⟩
    ·exact hN _ _ ⟨_,rfl,∅,t10.mono ∅,sx.trans (s9.trans Gj)⟩
theorem Sd(r:km):uH (Bc r)=true:=rfl
theorem DN(rs:List km):uH (v9 rs)=true:=by
 show bG (rs.map Bc)=true;exact aW.mpr fun d hd=>by obtain⟨r,_,rfl⟩:=d9.mp hd; rfl
structure Yn(rs:List km):Prop where
 lo:1<=rs.length
 hi:rs.length<=4
 g:∀r∈rs,U9 r
def Aw:Sp:=fun vs H Q _=>∃(a:Addr)(n:Nat)(bs:Bool),vs=[.ref a,.bl bs]/\Tp H a n/\n<=700000000/\∀p ji H',ji.length<=3->(∀rs∈ji,Yn rs)->At (hid a H') (vZ ji) (.ref p)->Tp H' a (n+300)->SX a H H'->Q (.ref p) H'
theorem vO:aX ["_law_tape_here","_law_small","_law_rules_here","_law_k"] AN (aG rY):=(by walk_at "c")
theorem Hf(F:i_ K "_law_rules" "_law_rules" rY f fd)(B:Bi mg)(aK:Ct P w K mg base k "_law_draw" AL gC)(U3:Ct P w K mg base k "_law_row" AN OD):bH P w K mg base ig (k+1) f fd AN Aw:=by
 refine F.ok vO (hbody:=(0:))
 obtain⟨a,n,bs,rfl,tp,hn,q⟩:=h;have ND:=vO.nd;refine⟨_,(aq (aU (i:=2) (cG ak)) (aq (iQ PassesOwn.never rfl (gW (by rfl) B.range (ao (pf aK hr (ao (pv 0) (ao (eQ (dD (pv 1)) aA aA) ak))) ak)) (aF (i:=3)) (aH (cT (gY (K:=K) rfl PySem.F.plainAttrs_list PySem.F.slot_list_append PySem.F.type_list_append fX (pv 2) (ao (pt (oO) B.tuple jH (ao (dH (N':=["_law_j","_law_tape_here","_law_small"]) (js:=[0,1]) rfl (gW (by rfl) B.range (ao (aO bA aA (pf aK hr (ao (pv 0) (ao (eQ (dD (pv 1)) aA aA) ak)))) ak)) uq.mk2 rfl ⋯ rfl (fun fp s' H'=>(pf U3 hr (ao (pv 1) (ao (pv 2) ak))))) ak)) ak))))) (aH (a_ (pt (oO) B.tuple jH (ao (pv 2) ak)))))),?_⟩
 ext;refine⟨eV _,fun p H1 f1 s1 e1=>?_⟩;have pa:p≠a:=tp.ne f1;rw[vB];ext;refine(fun(hT:∀(m:Int) (H2:Hp),0<=m->m<4->Tp H2 a (n+1)->SX a H1 H2->FK _ _ _ _ [.int m] H2)=>dC (fun _=>cL.of (tp.same s1) ∅ ⋯ ⋯ fun m H2 l2 u2 t2 s2=>hT m H2 l2 ∅ t2 s2) (fun _=>cL.of (tp.same s1) ∅ ⋯ ⋯ fun m H2 l2 u2 t2 s2=>hT m H2 l2 ∅ t2 s2)) ?_
 intro m H2 l2 u2 t2 s2;refine FK.of (n:=m.toNat) ∅ ∅ (fun i σ H'=>∃(ji:List (List km))(ys:List V)(o3:Option V),σ=[some (.ref a),some (.bl bs),some (.ref p),o3]/\ji.length=i/\ys.length=i/\(∀rs∈ji,Yn rs)/\H' p=some (.lst ys)/\aj (hid p (hid a H')) (ji.map v9) ys/\Tp H' a (n+1+60*i)/\SX a H H')
  ⟨[],[],_,rfl,rfl,rfl,fun d h=>by simp at h,s2.get pa e1,aj.nil,t2,(SX.of s1).trans s2⟩ ?_ ?_
 ·rintro i σ H3 hi ⟨ji,ys,o3,rfl,ld,ly,od,h3,a3,t3,s3⟩;ext;refine⟨.inl ⟨rfl,_,cz.of h3⟩,?_⟩;rw[rP];ext;refine(fun(hT:∀(r:Int) (H4:Hp),0<=r->r<4->Tp H4 a (n+1+60*i+1)->SX a H3 H4->∃i_1 j_1,V.int 1=V.int i_1/\V.int r=V.int j_1/\CK _ _ _ _ [.int (i_1+j_1)] H4)=>dC (fun _=>cL.of t3 ∅ ⋯ ⋯ fun r H4 l4 u4 t4 s4=>hT r H4 l4 ∅ t4 s4) (fun _=>cL.of t3 ∅ ⋯ ⋯ fun r H4 l4 u4 t4 s4=>hT r H4 l4 ∅ t4 s4)) ?_
  intro r H4 l4 u4 t4 s4;have h4:=s4.get pa h3;ext;refine CK.of (n:=(1+r).toNat) ∅ ∅ fun acc hacc=>?_
  have ca:acc≠a:=t4.ne hacc;have cp:acc≠p:=fun z=>by subst z; rw[hacc] at h4; cases h4
  refine⟨fun j zs H'=>∃es:List km,es.length=j/\zs.length=j/\(∀d∈es,U9 d)/\aj (hid acc (hid a H')) (es.map Bc) zs/\H' acc=some (.lst zs)/\Tp H' a (n+1+60*i+1+12*j)/\SX a H4 H',?_,?_,?_⟩
  ·exact⟨[],rfl,rfl,fun d h=>by simp at h,aj.nil,aB,t4.gB ca,(SX.refl a H4).gB hacc ca⟩
  ·rintro j zs H5 hj ⟨es,le,lz,oe,a5,c5,t5,s5⟩;show mZ _ _ _ _ [some _,some (.ref a),some (.bl bs)] H5 _;ext;refine Row.of t5 ∅ fun v d H6 rk a6 t6 s6=>?_
   have c6:=s6.get ca c5;have c6':hid a H6 acc=some (.lst zs):=by rw[cV ca]; exact c6
   refine⟨c6,(by rw[lz]; exact aR ∅),es++[d],by rw[cF,le]; rfl,by rw[cF,lz]; rfl,fun x hx=>?_,?_,aB,?_,?_⟩
   ·rcases gm.mp hx with z | z
    ·exact oe x z
    ·rw[dM.mp z]; exact rk
   ·rw[jy ca,vf,gk];exact(a5.mono (aJ.hid s6)).append (aj.cons (At.Hv c6' _ v (Sd d) a6) aj.nil)
   ·exact(t6.gB ca).mono ∅
   ·exact(s5.trans s6).gB hacc ca
  ·rintro zs H6 ⟨es,le,lz,oe,a6,c6,t6,s6⟩;have h6:=s6.get pa h4;refine⟨acc,zs,rfl,c6,fun l hl=>?_⟩;have la:l≠a:=t6.ne hl;have lp:l≠p:=fun z=>by subst z; rw[hl] at h6; cases h6
   refine⟨p,ys,_,rfl,rfl,by rw[aC (Ne.symm lp)]; exact h6,by rw[ly]; exact aR ∅,?_⟩
   have A1:At (hid a (upd H6 l (.tup zs))) (v9 es) (.ref l):=by
    rw[jy la];have fr:hid a H6 l=none:=by rw[cV la]; exact hl
    exact At.tup aB ((a6.mono Cg).mono (aM fr _))
   have h7:hid a (upd H6 l (.tup zs)) p=some (.lst ys):=by rw[cV pa,aC (Ne.symm lp)]; exact h6
   have s67:SX a H3 (upd H6 l (.tup zs)):=(s4.trans s6).trans (SX.of (aM hl _));refine⟨ji++[es],ys++[.ref l],_,rfl,by rw[cF,ld]; rfl,by rw[cF,ly]; rfl,fun x hx=>?_,aB,?_,?_,?_⟩
   ·rcases gm.mp hx with z | z
    ·exact od x z
    ·rw[dM.mp z]; exact⟨∅,∅,oe⟩
   ·rw[jy pa,vf,gk];exact(a3.mono (aJ.hid s67)).append (aj.cons (At.Hv h7 _ _ (DN es) A1) aj.nil)
   ·exact((t6.gB la).gB pa).mono ∅
   ·exact(s3.trans s67).gB f1 pa
 ·rintro σ H3 ⟨ji,ys,o3,rfl,ld,ly,od,h3,a3,t3,s3⟩;ext;refine⟨p,ys,rfl,h3,fun l hl=>?_⟩;have la:l≠a:=t3.ne hl;refine q l ji _ ∅ od ?_ ((t3.gB la).mono ∅) (s3.trans (SX.of (aM hl _)))
  rw[jy la];have fr:hid a H3 l=none:=by rw[cV la]; exact hl
  exact At.tup aB ((a3.mono Cg).mono (aM fr _))
structure Ge(x:fU):Prop where
 p:1<=x.p/\x.p<=1000000
 m:U12 x.m
 lo:0<=x.lo/\x.lo<=x.hi
 hi:x.hi<=12
 a:x.a<=4
 e:1<=x.e/\x.e<=6
 u:0<=x.u/\x.u<=9
 d:0<=x.d/\x.d<=9
 n:x.ji.length<=3
 r:∀rs∈x.ji,Yn rs
theorem Ge.is{x:fU}(h:Ge x):Ro x:=⟨h.a,by have:=h.p; omega,by have:=h.n; omega,fun rs hrs r hr=>((h.r rs hrs).g r hr).is⟩
def vK:Sp:=fun vs H Q _=>∃(a:Addr)(n:Nat),vs=[.ref a]/\Tp H a n/\n<=100000000/\∀p x H',Ge x->At (hid a H') (jq x) (.ref p)->Tp H' a (n+400)->SX a H H'->Q (.ref p) H'
theorem ju:aX ["_law_tape_here","_law_least","_law_hands","_law_rests","_law_late","_law_every"] AM (aG jc):=(by walk_at "c")
theorem uz(F:i_ K "_law_small_post" "_law_small_post" jc f fd)(B:Bi mg)(aK:Ct P w K mg base k "_law_draw" AL gC)(tH:Ct P w K mg base k "_law_rules" AN Aw):bH P w K mg base ig (k+1) f fd AM vK:=by
 refine F.ok ju (hbody:=(0:))
 obtain⟨a,n,rfl,tp,hn,q⟩:=h;have ND:=ju.nd;refine⟨_,(aq (aU (i:=1) (pf aK hr (ao (pv 0) (ao aA ak)))) (aq (aU (i:=2) (bw (ao (pv 1) (ao (aO bA (aO bA (pv 1) aA) (pf aK hr (ao (pv 0) (ao aA ak)))) ak)))) (aq (aU (i:=3) (bx bh (cG (ao (bw (ao aA (ao aA ak))) (ao (bw (ao aA (ao aA ak))) (ao (bw (ao aA (ao aA ak))) (ao (bw (ao aA (ao aA ak))) ak))))) (pf aK hr (ao (pv 0) (ao aA ak))) (fun _ _=>rfl))) (aq (Bo (i:=4) (j:=5) rfl ND rfl rfl ⋯ rfl rfl (ao (bx bh (cG (ao aA (ao aA (ao aA (ao aA ak))))) (pf aK hr (ao (pv 0) (ao aA ak))) (fun _ _=>rfl)) (ao (bx bh (cG (ao aA (ao aA (ao aA (ao aA ak))))) (pf aK hr (ao (pv 0) (ao aA ak))) (fun _ _=>rfl)) ak)) (by rfl)) (aH (a_ (bw (ao (aO bA aA (pf aK hr (ao (pv 0) (ao aA ak)))) (ao (aO bA aA (pf aK hr (ao (pv 0) (ao aA ak)))) (ao (pv 2) (ao (pv 4) (ao (pv 5) (ao (pv 3) (ao (pf tH hr (ao (pv 0) (ao jr ak))) ak)))))))))))))),?_⟩
 ext;refine cL.of tp ∅ ⋯ ⋯ fun y1 H1 l1 u1 t1 s1=>?_
 ext;refine cL.of t1 ∅ ⋯ ⋯ fun y2 H2 l2 u2 t2 s2=>⟨_,_,rfl,rfl,⋯,fun p3 H3 f3 s3 e3=>?_⟩
 have n3:=t2.ne f3;refine⟨⋯,fun q1 G1 g1 r1 d1=>⟨⋯,fun q2 G2 g2 r2 d2=>⟨⋯,fun q3 G3 g3 r3 d3=>⟨⋯,fun q4 G4 g4 r4 d4=>⟨⋯,fun p4 H4 f4 s4 e4=>?_⟩⟩⟩⟩⟩
 have x34:aJ H3 H4:=r1.trans (r2.trans (r3.trans (r4.trans s4)));have t4:=(t2.same s3).same x34;have m1:=((t2.same s3)).ne g1;have m2:=((t2.same s3).same r1).ne g2;have m3:=(((t2.same s3).same r1).same r2).ne g3;have m4:=((((t2.same s3).same r1).same r2).same r3).ne g4;have n4:=(((((t2.same s3).same r1).same r2).same r3).same r4).ne f4;refine cL.of t4 ∅ ⋯ ⋯ fun y5 H5 l5 u5 t5 s5=>?_
 have pick:∃(pr:Addr)(uu dd:Int),Dj [V.ref q1,V.ref q2,V.ref q3,V.ref q4] y5=some (.ref pr)/\pr≠a/\H5 pr=some (.tup [.int uu,.int dd])/\(0<=uu/\uu<=9)/\(0<=dd/\dd<=9):=by
  have:y5=0\/y5=1\/y5=2\/y5=3:=by omega
  rcases this with rfl | rfl | rfl | rfl
  ·exact⟨q1,0,0,aY (j:=0) rfl,m1,s5.get m1 (s4 _ _ (r4 _ _ (r3 _ _ (r2 _ _ d1)))),⋯,⋯⟩
  ·exact⟨q2,1,0,aY (j:=1) rfl,m2,s5.get m2 (s4 _ _ (r4 _ _ (r3 _ _ d2))),⋯,⋯⟩
  ·exact⟨q3,0,1,aY (j:=2) rfl,m3,s5.get m3 (s4 _ _ (r4 _ _ d3)),⋯,⋯⟩
  ·exact⟨q4,2,1,aY (j:=3) rfl,m4,s5.get m4 (s4 _ _ d4),⋯,⋯⟩
 obtain⟨pr,uu,dd,ep,npr,epr,hu,hd⟩:=pick;refine Ix.lst (s5.get n4 e4) ep ?_;refine⟨⋯,fun p6 H6 f6 s6 e6=>?_⟩
 have t6:=t5.same s6;have n6:=t5.ne f6;refine cL.of t6 ∅ ⋯ ⋯ fun y7 H7 l7 u7 t7 s7=>?_
 obtain⟨lt,hlt,elt⟩:=oG (ts:=[0,1,0,2]) l7 u7
 have hlt':0<=lt/\lt<=2:=by
  simp only[bK,fD,or_false] at hlt;rcases hlt with rfl | rfl | rfl | rfl <;> omega
 refine Ix.lst (s7.get n6 e6) elt ?_;clear elt hlt l7 u7;refine⟨⋯,fun p8 H8 f8 s8 e8=>?_⟩
 have t8:=t7.same s8;have n8:=t7.ne f8;refine cL.of t8 ∅ ⋯ ⋯ fun y9 H9 l9 u9 t9 s9=>?_
 obtain⟨ev,hev,eev⟩:=oG (ts:=[1,2,1,3]) l9 u9
 have ahY:1<=ev/\ev<=3:=by
  simp only[bK,fD,or_false] at hev;rcases hev with rfl | rfl | rfl | rfl <;> omega
 refine Ix.lst (s9.get n8 e8) eev ⟨_,_,rfl,?_⟩;clear eev hev l9 u9;refine cL.of t9 ∅ ⋯ ⋯ fun y10 Rr l10 u10 t10 Gj=>⟨_,_,rfl,rfl,?_⟩
 refine cL.of t10 ∅ ⋯ ⋯ fun y11 Va l11 u11 Z0 Ru=>⟨_,_,rfl,rfl,?_⟩
 refine⟨a,_,true,rfl,Z0,∅,fun p14 ji H14 XR XN a14 ZZ R9=>⟨⋯,fun p15 Yw f15 WK Uy=>?_⟩⟩
 have n15:=ZZ.ne f15;obtain⟨la,hla⟩:∃la:Nat,lt=(la:Int):=⟨lt.toNat,∅⟩
 rw[hla] at Uy;have x5:SX a H5 Yw:=(SX.of s6).trans (s7.trans ((SX.of s8).trans (s9.trans (Gj.trans (Ru.trans (R9.trans (SX.of WK)))))));have x3:SX a H3 Yw:=(SX.of x34).trans (s5.trans x5);refine q p15 ⟨1+y10,3+y11,y1,y1+1+y2,la,ev,uu,dd,ji⟩ Yw ⟨by show 1<=1+y10/\1+y10<=1000000; omega,by show 0<=3+y11/\3+y11<=1000000000000; omega,by show 0<=y1/\y1<=y1+1+y2; omega,by show y1+1+y2<=12; omega,by show la<=4; omega,by show 1<=ev/\ev<=6; omega,hu,hd,XR,XN⟩ ?_ ((ZZ.same WK).mono ∅) ?_
 ·exact At.tup (by rw[cV n15]; exact Uy) (aj.cons (At.int _) (aj.cons (At.int _) (aj.cons (At.tup (by rw[cV n3]; exact x3.get n3 e3) (dB [y1,y1+1+y2])) (aj.cons (At.int _) (aj.cons (At.int _) (aj.cons (At.tup (by rw[cV npr]; exact x5.get npr epr) (dB [uu,dd])) (aj.cons (a14.mono (SX.of WK)) aj.nil)))))))
 ·exact s1.trans (s2.trans ((SX.of s3).trans x3))
theorem zj:aX ["_law_tape_here","_law_pace","_law_most","_law_hands","_law_rests","_law_late","_law_every"] AM (aG vX):=(by walk_at "c")
theorem Lr(F:i_ K "_law_post" "_law_post" vX f fd)(B:Bi mg)(aK:Ct P w K mg base k "_law_draw" AL gC)(lC:Ct P w K mg base k "_law_units" AM qH)(tH:Ct P w K mg base k "_law_rules" AN Aw):bH P w K mg base ig (k+1) f fd AM vK:=by
 refine F.ok zj (hbody:=(0:))
 obtain⟨a,n,rfl,tp,hn,q⟩:=h;have ND:=zj.nd;refine⟨_,(aq (aU (i:=1) (bx bh (cG (ao aA (ao (aO bA aA (pf aK hr (ao (pv 0) (ao aA ak)))) (ao (aO bA aA (pf aK hr (ao (pv 0) (ao (aO pY aA aA) ak)))) ak)))) (pf aK hr (ao (pv 0) (ao aA ak))) (fun _ _=>rfl))) (aq (aU (i:=2) (pf aK hr (ao (pv 0) (ao aA ak)))) (aq (aU (i:=3) (bw (ao (pf aK hr (ao (pv 0) (ao (aO bA (pv 2) aA) ak))) (ao (pv 2) ak)))) (aq (aU (i:=4) (bw (ao (pf aK hr (ao (pv 0) (ao aA ak))) (ao (pf aK hr (ao (pv 0) (ao aA ak))) ak)))) (aq (Bo (i:=5) (j:=6) rfl ND rfl rfl ⋯ rfl rfl (ao (pf aK hr (ao (pv 0) (ao aA ak))) (ao (aO bA aA (pf aK hr (ao (pv 0) (ao aA ak)))) ak)) (by rfl)) (aH (a_ (bw (ao (pv 1) (ao (pf lC hr (ao (pv 0) ak)) (ao (pv 3) (ao (pv 5) (ao (pv 6) (ao (pv 4) (ao (pf tH hr (ao (pv 0) (ao jr ak))) ak))))))))))))))),?_⟩
 have e6:(10:Int) ^ Int.toNat 6=1000000:=by decide
 ext;refine cL.of tp ∅ ⋯ ⋯ fun y1 H1 l1 u1 t1 s1=>?_
 ext;refine⟨⟨⋯,⋯,⋯⟩,cL.of t1 ∅ ⋯ ⋯ fun y2 H2 l2 u2 t2 s2=>⟨_,_,rfl,rfl,⋯,fun p3 H3 f3 s3 e3=>?_⟩⟩
 rw[e6] at u2;have n3:=t2.ne f3;refine cL.of (t2.same s3) ∅ ⋯ ⋯ fun y4 H4 l4 u4 t4 s4=>?_
 obtain⟨pc,hpc,epc⟩:=oG (ts:=[1,1+y1,1+y2]) l4 u4
 have adD:1<=pc/\pc<=1000000:=by
  simp only[bK,fD,or_false] at hpc;rcases hpc with rfl | rfl | rfl <;> omega
 refine Ix.lst (s4.get n3 e3) epc ?_;clear hpc epc l4 u4;refine cL.of t4 ∅ ⋯ ⋯ fun y5 H5 l5 u5 t5 s5=>⟨_,_,rfl,rfl,?_⟩
 refine cL.of t5 ∅ ∅ ∅ fun y6 H6 l6 u6 t6 s6=>⟨⋯,fun p7 H7 f7 s7 e7=>?_⟩
 have n7:=t6.ne f7;refine cL.of (t6.same s7) ∅ ⋯ ⋯ fun y8 H8 l8 u8 t8 s8=>?_
 refine cL.of t8 ∅ ⋯ ⋯ fun y9 H9 l9 u9 t9 s9=>⟨⋯,fun p10 Rr f10 Gj e10=>?_⟩
 have n10:=t9.ne f10;refine cL.of (t9.same Gj) ∅ ⋯ ⋯ fun y11 Va l11 u11 Z0 Ru=>?_
 refine cL.of Z0 ∅ ⋯ ⋯ fun y12 H12 l12 u12 t12 s12=>⟨_,_,rfl,rfl,_,_,rfl,?_⟩
 refine V8.of t12 ∅ fun y13 H13 l13 u13 t13 Jk=>?_
 refine⟨a,_,false,rfl,t13,∅,fun p14 ji H14 XR XN a14 ZZ R9=>⟨⋯,fun p15 Yw f15 WK Uy=>?_⟩⟩
 have n15:=ZZ.ne f15;obtain⟨la,hla⟩:∃la:Nat,y11=(la:Int):=⟨y11.toNat,∅⟩
 rw[hla] at Uy;have x10:SX a Rr Yw:=Ru.trans (s12.trans (Jk.trans (R9.trans (SX.of WK))));have x7:SX a H7 Yw:=s8.trans (s9.trans ((SX.of Gj).trans x10));refine q p15 ⟨pc,y13,y6,y5,la,1+y12,y8,y9,ji⟩ Yw ⟨adD,⟨l13,u13⟩,by show 0<=y6/\y6<=y5; omega,by show y5<=12; omega,by show la<=4; omega,by show 1<=1+y12/\1+y12<=6; omega,by show 0<=y8/\y8<=9; omega,by show 0<=y9/\y9<=9; omega,XR,XN⟩ ?_ ((ZZ.same WK).mono ∅) ?_
 ·exact At.tup (by rw[cV n15]; exact Uy) (aj.cons (At.int _) (aj.cons (At.int _) (aj.cons (At.tup (by rw[cV n7]; exact x7.get n7 e7) (dB [y6,y5])) (aj.cons (At.int _) (aj.cons (At.int _) (aj.cons (At.tup (by rw[cV n10]; exact x10.get n10 e10) (dB [y8,y9])) (aj.cons (a14.mono (SX.of WK)) aj.nil)))))))
 ·exact s1.trans (s2.trans ((SX.of s3).trans (s4.trans (s5.trans (s6.trans ((SX.of s7).trans x7))))))
def ltr(c:Nat):Bool:=!(Builtin.Str.occurrences (Str.ofString "abcdefghijklmnopqrstuvwxyz") (tx [c]) 0 (Str.ofString "abcdefghijklmnopqrstuvwxyz").length 1).isEmpty
def nameB(cs:List Nat):Bool:=decide (1<=cs.length)&&decide (cs.length<=8)&&cs.all ltr
def Yr(c:Nat):Prop:=97<=c/\c<=122
structure RG(cs:List Nat):Prop where
 n:1<=cs.length/\cs.length<=8
 g:∀c∈cs,Yr c
theorem Xr{c:Nat}(h:Yr c):ltr c=true:=by
 have:∀d:Fin 26,ltr (97+d.val)=true:=by decide +kernel
 have h2:=this ⟨c-97,by have:=h.1; have:=h.2; omega⟩
 have e:97+(c-97)=c:=by have:=h.1; omega
 simpa[e] using h2
theorem RG.is{cs:List Nat}(h:RG cs):nameB cs=true:=by
 unfold nameB;rw[mU h.n.1,mU h.n.2,oY.mpr fun c hc=>Xr (h.g c hc)];rfl
def GJ:Sp:=fun vs H Q _=>∃(cs:List Nat),vs=[.str (tx cs)]/\(∀c∈cs,c<128)/\cs.length<=1000/\∀H',aJ H H'->Q (.bl (nameB cs)) H'
theorem vR:aX ["thing"] ["thing"] (aG su):=(by walk_at "c")
theorem Hi(F:i_ K "is_name" "is_name" su f fd)(B:Bi mg)(O:Co K mg):bH P w K mg base ig (k+1) f fd ["thing"] GJ:=by
 refine F.ok vR (hbody:=(0:))
 obtain⟨cs,rfl,ha,hz,q⟩:=h;have ND:=vR.nd;refine⟨_,(aq (cM (PW.pt (qR (jo (dD (pb u_ B.isinstance bN (ao (pv 0) (ao (pty (by rfl) B.str CQ) ak))))) (lL (jo (Et JL JL aA (pb (rF) B.len dq (ao (pv 0) ak)) (Bs O.Dd)))))) (aH (a_ jr)) bF) (aH (a_ (pb (iZ rfl) B.all tO (ao (dH (N':=["sign"]) (js:=[]) rfl (W9 (pv 0)) uq.Xp rfl ⋯ rfl (fun fp s' H'=>(du Lk (pv 0) (Br O.LETTERS) (by with_unfolding_all rfl)))) ak))))),?_⟩
 ext;refine⟨.str (tx cs),_,rfl,At.str _,?_⟩;ext;refine⟨tx cs,rfl,by rw[fu,sizeLine_eq]; omega,?_⟩
 rw[fu];refine aaX (fun h=>?_) (fun h=>?_)
 ·refine aaX (fun h2=>?_) (fun h2=>?_)
  ·have:nameB cs=false:=by
    have h3:¬cs.length<=8:=by simp at h2; omega
    unfold nameB; rw[j4 h3]; simp
   rw[<- this]; exact q H (aJ.refl H)
  ·refine Yc (l:=cs) (f:=ltr) (fun R hR=>by ext; exact hR) ha (by rw[sizeLine_eq]; omega) (fun c H1 s1 R hR=>?_) fun acc H1 s1 e1=>?_
   ·ext;exact⟨_,_,rfl,rfl,hR H1 (aJ.refl H1)⟩
   ·refine⟨acc,_,rfl,e1,?_⟩;have h1:1<=cs.length:=by simp at h; omega
    have h3:cs.length<=8:=by simp at h2; omega
    have:nameB cs=(cs.map ltr).all id:=by unfold nameB; rw[mU h1,mU h3,List.all_map]; rfl
    rw[<- this]; exact q H1 s1
 ·have:nameB cs=false:=by
   have h3:¬1<=cs.length:=fun z=>h (by simp; omega)
   unfold nameB; rw[j4 h3]; simp
  rw[<- this]; exact q H (aJ.refl H)
theorem Name.of{cs:List Nat}{H:Hp}{Q:VK}{E:XK}(h:RG cs)(q:∀H',aJ H H'->Q (.bl true) H'):GJ ([.str (tx cs)]++[]) H Q E:=
 ⟨cs,rfl,fun c hc=>by have:=(h.g c hc).2; omega,by have:=h.n.2; omega,fun H' s'=>by rw[h.is]; exact q H' s'⟩
theorem Qt:∀cs:List Nat,jn [] (cs.map fun c=>[c])=cs
 | []=>rfl
 | [c]=>rfl
 | c::d::r=>by
  show[c]++[]++jn [] ((d::r).map fun c=>[c])=_;rw[Qt (d::r)]; rfl
theorem letter{i:Int}(h0:0<=i)(h1:i<26):Dj (Str.ofString "abcdefghijklmnopqrstuvwxyz").cps.toList i=some (97+i.toNat):=by
 obtain⟨j,rfl⟩:∃j:Nat,i=(j:Int):=⟨i.toNat,∅⟩
 have hl:(Str.ofString "abcdefghijklmnopqrstuvwxyz").cps.toList=(List.range 26).map (97 + ·):=by decide +kernel
 rw[hl];refine aY ?_;rw[cD,List.getElem?_range ∅]
 rfl
theorem O1(l:List Nat){j:Int}(h0:0<=j)(h1:j<=l.length):Txt.slice (tx l) none (some j)=tx (l.take j.toNat):=by
 have:=beq_iff_eq.mp (PyProof.Rows.slice_closes_toL (x:=tx l) h0 (by rw[fu]; exact h1))
 rw[this,vy];simp[tx]
theorem O2(l:List Nat){j:Int}(h0:0<=j)(h1:j<=l.length):Txt.slice (tx l) (some j) none=tx (l.drop j.toNat):=by
 have:=beq_iff_eq.mp (PyProof.Rows.slice_closes_fromL (x:=tx l) (b:=(tx l).length) h0 (by rw[fu]; exact h1) rfl)
 rw[this,vy,fu];unfold tx
 congr 2
 exact Jt (by rw[uw]; omega)
theorem K_{m:Nat}{g:Nat->Option Nat}(h:∀i j,i<j->j<m->g i≠g j):((List.range m).map g).Nodup:=by
 unfold List.Nodup;rw[List.pairwise_map];refine List.Pairwise.imp_of_mem ?_ List.pairwise_lt_range;intro a b ha hb hab;exact h a b hab (List.mem_range.mp hb)
def RC(y:Int)(i:Nat):Nat:=97+((y+7*(i:Int)) % 26).toNat
theorem abl(y:Int)(i:Nat):Yr (RC y i):=by
 unfold RC Yr;have:=wu (y+7*(i:Int)) (show(26:Int)≠0 by decide)
 have:=Bk (y+7*(i:Int)) (show(0:Int)<26 by decide)
 omega
theorem abk{y:Int}{i j:Nat}(h:i<j)(hj:j<26):RC y i≠RC y j:=by
 unfold RC;have:=wu (y+7*(i:Int)) (show(26:Int)≠0 by decide)
 have:=wu (y+7*(j:Int)) (show(26:Int)≠0 by decide)
 omega
theorem word{a:Addr}{n:Nat}{LT:Str}{r:St}{H:Hp}{Q:VK}(hLl:LT.length<=sizeLine)(QC:∀i:Int,0<=i->i<26->Dj LT.cps.toList i=some (97+i.toNat))(hc:bW [2,0] (some (.ref a)::r)=[some (.str LT),some (.ref a)])(tp:Tp H a n)(hn:n<=200000000)
  (q:∀acc (cs:List Nat) H',cs.length<=7->(∀c∈cs,Yr c)->H' acc=some (.lst (cs.map fun c=>V.str (tx [c])))->Tp H' a (n+10)->SX a H H'->Q (.ref acc) H') :
  iu [2,0] (Fv (pH (mZ gC [] E0 (pH (mR 0) (pH (tC (V.int 8)) Ao))) Ao)) (R4 aao (mR 1) (mZ gC [] E0 (pH (mR 2) (pH (tC (V.int 26)) Ao)))) (some (.ref a)::r) H Q:=by
 rw[rP];ext;refine cL.of tp ∅ ⋯ ⋯ fun y6 H6 l6 u6 t6 s6=>?_
 refine CK.of (n:=y6.toNat) ∅ ∅ fun acc hacc=>?_
 have ca:acc≠a:=t6.ne hacc;refine⟨fun j ws H'=>∃cs:List Nat,cs.length=j/\ws=cs.map (fun c=>V.str (tx [c]))/\(∀c∈cs,Yr c)/\H' acc=some (.lst ws)/\Tp H' a (n+1+j)/\SX a H6 H',?_,?_,?_⟩
 ·exact⟨[],rfl,rfl,fun d h=>by simp at h,aB,t6.gB ca,(SX.refl a H6).gB hacc ca⟩
 ·rintro j ws H7 hj ⟨cs,lc,rfl,hcs,c7,t7,s7⟩;rw[hc];ext;refine cL.of t7 ∅ ⋯ ⋯ fun y8 H8 l8 u8 t8 s8=>?_
  refine⟨LT,_,_,rfl,rfl,hLl,QC y8 l8 u8,s8.get ca c7,by rw[bZ,lc]; exact aR ∅,cs++[97+y8.toNat],by rw[cF,lc]; rfl,by rw[gk]; rfl,fun x hx=>?_,aB,(t8.gB ca).mono ∅,(s7.trans s8).gB hacc ca⟩
  rcases gm.mp hx with h | h
  ·exact hcs x h
  ·rw[dM.mp h]; unfold Yr; omega
 ·rintro ws H7 ⟨cs,lc,rfl,hcs,c7,t7,s7⟩;exact q acc cs H7 ∅ hcs c7 (t7.mono ∅) (s6.trans s7)
theorem Wq{a p:Addr}{H H':Hp}(s:SX a H H')(n:p≠a)(h:H' p=none):H p=none:=by
 cases e:H p with
 | none=>rfl
 | some o=>rw[s.get n e] at h; cases h
theorem JX{cs:List Nat}(h:cs.length<=7):((cs.map fun c=>tx [c]).map fun x=>x.length).sum+(cs.map fun c=>tx [c]).length*(Str.ofString "").length<=sizeLine:=by
 have:=StrLaws.sumLen_le (B:=1) (cs.map fun c=>tx [c]) (fun y hy=>by
  obtain⟨x,hx,rfl⟩:=d9.mp hy
  exact bc _)
 rw[bZ] at this ⊢;rw[show(Str.ofString "").length=0 from rfl,sizeLine_eq];omega
def Wv:Sp:=fun vs H Q _=>∃(a:Addr)(n m:Nat),vs=[.ref a,.int m]/\m<=20/\Tp H a n/\n<=100000000/\∀p (zs:List (List Nat)) H',H p=none->p≠a->zs.length=m->(∀z∈zs,RG z)->zs.Nodup->H' p=some (.lst (zs.map fun z=>V.str (tx z)))->Tp H' a (n+300)->SX a H H'->Q (.ref p) H'
theorem vP:aX ["_law_tape_here","_law_many","_law_letters","_law_first","_law_stem","_law_spot","_law_like","_law_found","_law_k","_law_letter"] AL (aG rZ):=(by walk_at "c")
theorem Hg(F:i_ K "_law_names" "_law_names" rZ f fd)(B:Bi mg)(aK:Ct P w K mg base k "_law_draw" AL gC):bH P w K mg base ig (k+1) f fd AL Wv:=by
 refine F.ok vP (hbody:=(0:))
 obtain⟨a,n,m,rfl,hm,tp,hn,q⟩:=h;have ND:=vP.nd;refine⟨_,(aq (dF (bw (ao fG (ao (pf aK hr (ao (pv 0) (ao aA ak))) ak))) (bQ (K:=K) (n:=2) rfl rfl (aD (aF (i:=2)) (aD (aF (i:=3)) bO)))) (aq (aU (i:=4) (gY (K:=K) rfl PySem.F.plainAttrs_str PySem.F.slot_str_join PySem.F.type_str_join JP fG (ao (dH (N':=["_law_k","_law_letters","_law_tape_here"]) (js:=[2,0]) rfl (gW (by rfl) B.range (ao (pf aK hr (ao (pv 0) (ao aA ak))) ak)) uq.mk2 rfl ⋯ rfl (fun fp s' H'=>(bx Hr (pv 1) (pf aK hr (ao (pv 2) (ao aA ak))) (fun _ _=>rfl)))) ak))) (aq (S7 (i:=5) (j:=6) (l:=7) rfl ND rfl rfl rfl rfl rfl rfl (ao (pf aK hr (ao (pv 0) (ao (aO bA (pb (rF) B.len dq (ao (pv 4) ak)) aA) ak))) (ao (du iB (pf aK hr (ao (pv 0) (ao aA ak))) aA (bf _)) (ao (cG ak) ak))) (by rfl)) (aq (iQ PassesOwn.never rfl (gW (by rfl) B.range (ao (pv 1) ak)) (aF (i:=8)) (aq (aU (i:=9) (bx Hr (pv 2) (aO lO (aO bA (pv 3) (aO jt aA (pv 8))) aA) (fun _ _=>rfl))) (aH (cM (dD (pv 6)) (aH (cT (gY (K:=K) rfl PySem.F.plainAttrs_list PySem.F.slot_list_append PySem.F.type_list_append fX (pv 7) (ao (aO lQ (aO lQ (cW O3 (pv 4) eZ (dG (pv 5))) (pv 9)) (cW O3 (pv 4) (dG (pv 5)) eZ)) ak)))) (aH (cT (gY (K:=K) rfl PySem.F.plainAttrs_list PySem.F.slot_list_append PySem.F.type_list_append fX (pv 7) (ao (aO lQ (gY (K:=K) rfl PySem.F.plainAttrs_str PySem.F.slot_str_join PySem.F.type_str_join JP fG (ao (dH (N':=["_law_turn","_law_letters","_law_tape_here"]) (js:=[2,0]) rfl (gW (by rfl) B.range (ao (pf aK hr (ao (pv 0) (ao aA ak))) ak)) uq.mk2 rfl ⋯ rfl (fun fp s' H'=>(bx Hr (pv 1) (pf aK hr (ao (pv 2) (ao aA ak))) (fun _ _=>rfl)))) ak)) (pv 9)) ak)))))))) (aH (a_ (pv 7))))))),?_⟩
 ext;refine cL.of tp ∅ ⋯ ⋯ fun y1 H1 l1 u1 t1 s1=>⟨⋯,fun p2 H2 f2 s2 e2=>?_⟩
 refine⟨p2,_,rfl,dU.of e2,rfl,?_⟩;generalize hL:Str.ofString "abcdefghijklmnopqrstuvwxyz" = LT;have hLl:LT.length<=sizeLine:=by rw[<- hL]; decide
 have QC:∀i:Int,0<=i->i<26->Dj LT.cps.toList i=some (97+i.toNat):=fun i h0 h1=>by rw[<- hL]; exact letter h0 h1
 ext;refine⟨rfl,?_⟩;refine word hLl QC rfl (t1.same s2) ∅ fun acc st H3 ls gs e3 t3 s3=>?_
 have ej:∀cs:List Nat,Str.join (Str.ofString "") (cs.map fun c=>tx [c])=tx cs:=fun cs=>by
  rw[show Str.ofString "" = tx [] from rfl,show(cs.map fun c=>tx [c])=(cs.map fun c=>[c]).map tx by rw[uv]; rfl,JW,Qt]
 refine⟨_,acc,st.map fun c=>tx [c],rfl,rfl,by rw[e3,uv]; rfl,?_,?_⟩
 ·exact JX ls
 rw[ej];refine⟨tx st,rfl,by rw[fu,sizeLine_eq]; omega,?_⟩
 rw[fu];refine cL.of t3 ∅ ∅ ∅ fun y4 H4 l4 u4 t4 s4=>?_
 refine cL.of t4 ∅ ⋯ ⋯ fun y5 H5 l5 u5 t5 s5=>?_
 ext;refine⟨⋯,fun p H6 f6 s6 e6=>?_⟩
 have pa:=t5.ne f6;have x5:SX a H H5:=s1.trans ((SX.of s2).trans (s3.trans (s4.trans s5)));have fHp:H p=none:=Wq x5 pa f6;generalize decide (y5=0)=lk
 obtain⟨g,hg1,hg2⟩:∃g:List Nat->Option Nat,(∀c,lk=true->g (st.take y4.toNat++[c]++st.drop y4.toNat)=some c)/\∀b c,lk=false->g (b++[c])=some c:=by
  cases lk with
  | true=>exact⟨fun z=>z[y4.toNat]?,fun c _=>by
    show(st.take y4.toNat++[c]++st.drop y4.toNat)[y4.toNat]?=some c
    rw[G5,uy (by rw[iJ]; omega),iJ,Ek ∅,wA]; rfl,(fun _ _ h=>by cases h)⟩
  | false=>exact⟨fun z=>z.getLast?,(fun _ h=>by cases h),fun b c _=>by simp⟩
 refine⟨_,_,_,rfl,?_⟩;rw[vB];ext;refine FK.of (n:=m) rfl ∅ (fun i σ H'=>∃(zs:List (List Nat))(o8 o9:Option V),σ=[some (.ref a),some (.int m),some (.str LT),some (.int y1),some (.str (tx st)),some (.int y4),some (.bl lk),some (.ref p),o8,o9]/\zs.length=i/\(∀z∈zs,RG z)/\zs.map g=(List.range i).map (fun j=>some (RC y1 j))/\H' p=some (.lst (zs.map fun z=>V.str (tx z)))/\Tp H' a (n+20+10*i)/\SX a H H')
  ⟨[],none,none,rfl,rfl,fun z hz=>by simp at hz,rfl,e6,(t5.same s6).mono ∅,x5.trans (SX.of s6)⟩ ?_ ?_
 ·rintro i σ H7 hi ⟨zs,o8,o9,rfl,lz,hzs,hgz,e7,t7,s7⟩;ext;refine⟨.inl ⟨∅,∅⟩,⋯,?_⟩
  have m0:=wu (y1+7*(0+(i:Int))) (show(26:Int)≠0 by decide)
  have m1:=Bk (y1+7*(0+(i:Int))) (show(0:Int)<26 by decide)
  refine⟨LT,_,_,rfl,rfl,hLl,QC _ m0 m1,?_⟩;have ec:97+((y1+7*(0+(i:Int))) % 26).toNat=RC y1 i:=by unfold RC; rw[Int.zero_add]
  rw[ec,Wk];have aa2:=abl y1 i
  have hcn:∀b:List Nat,g b=some (RC y1 i)->(zs++[b]).map g=(List.range (i+1)).map fun j=>some (RC y1 j):=fun b hb=>by
   rw[gk,hgz,List.range_succ,gk];simp[hb]
  have hmem:∀b:List Nat,RG b->∀z∈zs++[b],RG z:=fun b hb z hz=>by
   rcases gm.mp hz with h | h
   ·exact hzs z h
   ·rw[dM.mp h]; exact hb
  dsimp only;cases hlk:lk with
  | true=>
   rw[aV rfl];refine⟨.inl ⟨rfl,_,cz.of e7⟩,tx st,rfl,by rw[fu,sizeLine_eq]; omega,?_⟩
   rw[O1 st l4 ∅]
   refine⟨_,_,rfl,rfl,by rw[fu,fu,sizeLine_eq,iJ]; simp only[fC,pW]; omega,tx st,rfl,by rw[fu,sizeLine_eq]; omega,?_⟩
   rw[O2 st l4 ∅,vA]
   refine⟨_,_,rfl,rfl,?_,?_⟩
   ·rw[fu,fu,sizeLine_eq]; simp only[cF,iJ,uw,fC,pW]; omega
   rw[vA];refine⟨p,_,_,rfl,rfl,e7,by rw[bZ,lz]; exact aR ∅,zs++[_],_,_,rfl,by rw[cF,lz]; rfl,hmem _ ⟨?_,?_⟩,hcn _ (hg1 _ hlk),by rw[aB,gk]; rfl,(t7.gB pa).mono ∅,s7.gB fHp pa⟩
   ·simp only[cF,iJ,uw,fC,pW]; omega
   ·intro c hc;rcases gm.mp hc with h | h
    ·rcases gm.mp h with h | h
     ·exact gs c (wy h)
     ·rw[dM.mp h]; exact aa2
    ·exact gs c (Ea h)
  | false=>
   rw[aN ⋯]
   refine⟨.inl ⟨rfl,_,cz.of e7⟩,rfl,?_⟩;refine word hLl QC rfl t7 ∅ fun Yj cs H8 lc gc e8 t8 s8=>?_
   refine⟨_,Yj,cs.map fun c=>tx [c],rfl,rfl,by rw[e8,uv]; rfl,JX lc,?_⟩
   rw[ej];refine⟨_,_,rfl,rfl,by rw[fu,fu,sizeLine_eq]; simp only[fC,pW]; omega,?_⟩
   rw[vA];refine⟨p,_,_,rfl,rfl,s8.get pa e7,by rw[bZ,lz]; exact aR ∅,zs++[_],_,_,rfl,by rw[cF,lz]; rfl,hmem _ ⟨?_,?_⟩,hcn _ (hg2 _ _ hlk),by rw[aB,gk]; rfl,(t8.gB pa).mono ∅,(s7.trans s8).gB fHp pa⟩
   ·simp only[cF,fC,pW]; omega
   ·intro c hc;rcases gm.mp hc with h | h
    ·exact gc c h
    ·rw[dM.mp h]; exact aa2
 ·rintro σ H7 ⟨zs,o8,o9,rfl,lz,hzs,hgz,e7,t7,s7⟩;ext;refine q p zs H7 fHp pa lz hzs ?_ e7 (t7.mono ∅) s7
  have h1:(zs.map g).Nodup:=by
   rw[hgz];exact K_ fun i j hij hj z=>abk hij ∅ (Option.some.inj z)
  unfold List.Nodup at h1 ⊢;rw[List.pairwise_map] at h1;exact h1.imp fun h e=>h (by rw[e])
theorem Nm.of{a:Addr}{n m:Nat}{j:Int}{H:Hp}{Q:VK}{E:XK}(ej:j=m)(hm:m<=20)(tp:Tp H a n)(hn:n<=100000000)(q:∀p (zs:List (List Nat)) H',H p=none->p≠a->zs.length=m->(∀z∈zs,RG z)->zs.Nodup->H' p=some (.lst (zs.map fun z=>V.str (tx z)))->Tp H' a (n+300)->SX a H H'->Q (.ref p) H'):Wv ([.ref a,.int j]++[]) H Q E:=by
 subst ej;exact⟨a,n,m,rfl,hm,tp,hn,q⟩
theorem Bm(x:fU):uH (jq x)=true:=by
 have h:uH (vZ x.ji)=true:=by
  show bG (x.ji.map v9)=true;exact aW.mpr fun d hd=>by obtain⟨rs,_,rfl⟩:=d9.mp hd; exact DN rs
 unfold jq Py;simp[uH,bG,h]
theorem fO(xs:List fU):bG (xs.map jq)=true:=aW.mpr fun d hd=>by obtain⟨x,_,rfl⟩:=d9.mp hd; exact Bm x
theorem fM(xs:List gP):bG (xs.map xU)=true:=aW.mpr fun d hd=>by obtain⟨x,_,rfl⟩:=d9.mp hd; exact Av x
theorem R0(l:List Int):uH (mQ l)=true:=by show bG (l.map PyData.int)=true; exact iD l
theorem jM(xs:List (List Int)):bG (xs.map mQ)=true:=aW.mpr fun d hd=>by obtain⟨x,_,rfl⟩:=d9.mp hd; exact R0 x
structure Rw where
 n:Str
 c:Int
 d:Int
 a:Int
 h:Int
def sy(r:Rw):PyData:=.tuple [.str r.n,.int r.c,.int r.d,.int r.a,.int r.h]
theorem rw_noL(r:Rw):uH (sy r)=true:=rfl
theorem eU(xs:List Rw):bG (xs.map sy)=true:=aW.mpr fun d hd=>by obtain⟨x,_,rfl⟩:=d9.mp hd; exact rw_noL x
structure Yd where
 tot:Int
 ns:List Str
 ps:List fU
 os:List (Option Str)
 ss:List gP
 ts:List (List Int)
 pa:List (List Rw)
structure Ya where
 p:Addr
 lo:Addr
 dp:Addr
 dn:Addr
 ds:Addr
 dt:Addr
 lp:Addr
 uV:List Addr
def Ya.own(a:Ya):List Addr:=[a.p,a.lo,a.dp,a.dn,a.ds,a.dt,a.lp]++a.uV
def Cq(t:Int)(lo dp dn ds dt lp:Addr):List (Str×V):=[("total",.int t),("order",.ref lo),("posts",.ref dp),("onwards",.ref dn),("stands",.ref ds),("tallies",.ref dt),("past",.ref lp)]
section
variable(t:Int)(lo dp dn ds dt lp:Addr)
theorem QR:(Cq t lo dp dn ds dt lp).lookup ("total" : Str)=some (.int t):=by kernel_rfl
theorem nU:(Cq t lo dp dn ds dt lp).lookup ("order" : Str)=some (.ref lo):=by kernel_rfl
theorem QS:(Cq t lo dp dn ds dt lp).lookup ("posts" : Str)=some (.ref dp):=by kernel_rfl
theorem qg:(Cq t lo dp dn ds dt lp).lookup ("onwards" : Str)=some (.ref dn):=by kernel_rfl
theorem oH:(Cq t lo dp dn ds dt lp).lookup ("stands" : Str)=some (.ref ds):=by kernel_rfl
theorem qe:(Cq t lo dp dn ds dt lp).lookup ("tallies" : Str)=some (.ref dt):=by kernel_rfl
theorem J_:(Cq t lo dp dn ds dt lp).lookup ("past" : Str)=some (.ref lp):=by kernel_rfl
end
def d7:Option Str->V
 | none=>.non
 | some s=>.str s
def zR:Option Str->PyData
 | none=>.none
 | some s=>.str s
theorem Qa(o:Option Str):uH (zR o)=true:=by cases o <;> rfl
theorem TQ(os:List (Option Str)):bG (os.map zR)=true:=aW.mpr fun d hd=>by obtain⟨x,_,rfl⟩:=d9.mp hd; exact Qa x
theorem Fb{H:Hp}(o:Option Str):At H (zR o) (d7 o):=by cases o with
 | none=>show At _ .none .non; unfold At; rfl
 | some z=>exact At.str _
theorem VJ{H:Hp}{o:Option Str}{v:V}(h:At H (zR o) v):v=d7 o:=by
 cases o with
 | none=>unfold zR At at h; exact h
 | some z=>unfold zR At at h; exact h
theorem P_{H:Hp}:∀{os:List (Option Str)}{vs:List V},aj H (os.map zR) vs->vs=os.map d7
 | [],_,h=>aj.gQ h
 | o::os,vs,h=>by
  obtain⟨x,r,rfl,h1,h2⟩:=aj.aP h;rw[VJ h1,P_ h2]; rfl
def cg(H:Hp):List Addr->List (List Rw)->Prop
 | [],[]=>True
 | l::ls,r::rs=>(∃xs,H l=some (.lst xs)/\aj H (r.map sy) xs)/\cg H ls rs
 | _,_=>False
theorem cg.length{H:Hp}:∀{ls:List Addr}{rs:List (List Rw)},cg H ls rs->ls.length=rs.length
 | [],[],_=>rfl
 | l::ls,r::rs,h=>by rw[fC,fC,cg.length h.2]
 | [],_::_,h=>h.elim
 | _::_,[],h=>h.elim
theorem cg.keep{H H':Hp}(m:dW H H'):∀{ls:List Addr}{rs:List (List Rw)},cg H ls rs->(∀b∈ls,∀o,H b=some o->H' b=some o)->cg H' ls rs
 | [],[],_,_=>trivial
 | l::ls,r::rs,h,k=>by
  obtain⟨⟨xs,e,a⟩,h2⟩:=h;exact⟨⟨xs,k l (eX ..) _ e,aj.kp m _ _ (eU r) a⟩,cg.keep m h2 fun b hb=>k b (dX _ hb)⟩
 | [],_::_,h,_=>h.elim
 | _::_,[],h,_=>h.elim
theorem cg.snoc{H:Hp}:∀{ls:List Addr}{rs:List (List Rw)}{l:Addr}{r:List Rw}{xs:List V},cg H ls rs->H l=some (.lst xs)->aj H (r.map sy) xs->cg H (ls++[l]) (rs++[r])
 | [],[],l,r,xs,_,e,a=>⟨⟨xs,e,a⟩,trivial⟩
 | l::ls,r::rs,_,_,_,h,e,a=>⟨h.1,cg.snoc h.2 e a⟩
 | [],_::_,_,_,_,h,_,_=>h.elim
 | _::_,[],_,_,_,h,_,_=>h.elim
theorem cg.all{H:Hp}:∀{ls:List Addr}{rs:List (List Rw)},cg H ls rs->∀b∈ls,∃xs,H b=some (.lst xs)
 | [],[],_,b,hb=>by simp at hb
 | l::ls,r::rs,h,b,hb=>by
  rcases bK.mp hb with e | e
  ·subst e; obtain⟨⟨xs,e,_⟩,_⟩:=h; exact⟨xs,e⟩
  ·exact cg.all h.2 b e
 | [],_::_,h,_,_=>h.elim
 | _::_,[],h,_,_=>h.elim
structure bD(C:Addr)(H:Hp)(a:Ya)(y:Yd):Prop where
 ob:∃dx,H a.p=some (.ins C dx (Cq y.tot a.lo a.dp a.dn a.ds a.dt a.lp))
 lo:H a.lo=some (.lst (y.ns.map V.str))
 dp:∃vs,H a.dp=some (.dK (zK y.ns vs))/\aj H (y.ps.map jq) vs
 dn:H a.dn=some (.dK (zK y.ns (y.os.map d7)))
 ds:∃vs,H a.ds=some (.dK (zK y.ns vs))/\aj H (y.ss.map xU) vs
 dt:∃vs,H a.dt=some (.dK (zK y.ns vs))/\aj H (y.ts.map mQ) vs
 lp:H a.lp=some (.lst (a.uV.map V.ref))
 pa:cg H a.uV y.pa
 nd:a.own.Nodup
theorem bD.keep{C:Addr}{H H':Hp}{a:Ya}{y:Yd}(A:bD C H a y)(m:dW H H')(k:∀b∈a.own,∀o,H b=some o->H' b=some o):bD C H' a y:=by
 obtain⟨⟨dx,h1⟩,h2,⟨v3,h3,g3⟩,h4,⟨v5,h5,g5⟩,⟨v6,h6,g6⟩,h7,h8,h9⟩:=A;have kk:∀b o,b∈[a.p,a.lo,a.dp,a.dn,a.ds,a.dt,a.lp]->H b=some o->H' b=some o:=fun b o hb e=>k b (Es _ hb) o e;exact⟨⟨dx,kk _ _ (by simp) h1⟩,kk _ _ (by simp) h2,⟨v3,kk _ _ (by simp) h3,aj.kp m _ _ (fO _) g3⟩,kk _ _ (by simp) h4,⟨v5,kk _ _ (by simp) h5,aj.kp m _ _ (fM _) g5⟩,⟨v6,kk _ _ (by simp) h6,aj.kp m _ _ (jM _) g6⟩,kk _ _ (by simp) h7,h8.keep m fun b hb=>k b (iM _ hb),h9⟩
theorem bD.mono{C:Addr}{H H':Hp}{a:Ya}{y:Yd}(A:bD C H a y)(s:aJ H H'):bD C H' a y:=A.keep s.kp fun b _ o e=>s b o e
theorem bD.al{C:Addr}{H:Hp}{a:Ya}{y:Yd}(A:bD C H a y):∀b∈a.own,∃o,H b=some o/\∀xs,o≠.tup xs:=fun b hb=>by
 obtain⟨⟨dx,h1⟩,h2,⟨v3,h3,g3⟩,h4,⟨v5,h5,g5⟩,⟨v6,h6,g6⟩,h7,h8,h9⟩:=A;rcases gm.mp hb with h | h
 ·simp only[bK,fD,or_false] at h;rcases h with rfl | rfl | rfl | rfl | rfl | rfl | rfl
  ·exact⟨_,h1,fun _ z=>by cases z⟩
  ·exact⟨_,h2,fun _ z=>by cases z⟩
  ·exact⟨_,h3,fun _ z=>by cases z⟩
  ·exact⟨_,h4,fun _ z=>by cases z⟩
  ·exact⟨_,h5,fun _ z=>by cases z⟩
  ·exact⟨_,h6,fun _ z=>by cases z⟩
  ·exact⟨_,h7,fun _ z=>by cases z⟩
 ·obtain⟨xs,e⟩:=h8.all b h;exact⟨_,e,fun _ z=>by cases z⟩
theorem bD.kp{C:Addr}{H H':Hp}{a:Ya}{y:Yd}(A:bD C H a y)(f:Fr a.own H H'):dW H H':=f.kp fun b hb xs z=>by
 obtain⟨o,e,n⟩:=A.al b hb;rw[e] at z; cases z; exact n _ rfl
theorem bD.off{C:Addr}{H H':Hp}{a:Ya}{y:Yd}{S:List Addr}(A:bD C H a y)(f:Fr S H H')(m:dW H H')(d:∀b∈a.own,b∉S):bD C H' a y:=A.keep m fun b hb o e=>f b o e (d b hb)
structure ZY(K:Frag)(C:Addr):Prop where
 cl:Dk K C
 n1:cR K C "total"
 n2:cR K C "order"
 n3:cR K C "posts"
 n4:cR K C "onwards"
 n5:cR K C "stands"
 n6:cR K C "tallies"
 n7:cR K C "past"
section
variable{C:Addr}{H:Hp}{a:Ya}{y:Yd}{Q:VK}
theorem Fl.order(Z:ZY K C)(A:bD C H a y)(q:Q (.ref a.lo) H):∃p C' dx fs v,V.ref a.p=.ref p/\H p=some (.ins C' dx fs)/\Dk K C'/\cR K C' "order" /\ fs.lookup ("order" : Str)=some v/\Q v H:=by
 obtain⟨dx,h⟩:=A.ob;exact⟨_,_,_,_,_,rfl,h,Z.cl,Z.n2,nU ..,q⟩
theorem Fl.stands(Z:ZY K C)(A:bD C H a y)(q:Q (.ref a.ds) H):∃p C' dx fs v,V.ref a.p=.ref p/\H p=some (.ins C' dx fs)/\Dk K C'/\cR K C' "stands" /\ fs.lookup ("stands" : Str)=some v/\Q v H:=by
 obtain⟨dx,h⟩:=A.ob;exact⟨_,_,_,_,_,rfl,h,Z.cl,Z.n5,oH ..,q⟩
theorem Me.of{m:Str}{R:Addr->Prop}(A:bD C H a y)(h:∀t lo dp dn ds dt lp,(Cq t lo dp dn ds dt lp).lookup m=none)(q:R a.p):∃p dx fs,V.ref a.p=.ref p/\H p=some (.ins C dx fs)/\fs.lookup m=none/\R p:=by
 obtain⟨dx,e⟩:=A.ob;exact⟨_,_,_,rfl,e,h ..,q⟩
end
structure M9(s:gP):Prop where
 r:0<=s.r
 c:s.cs.length=5
 cn:∀y∈s.cs,0<=y
 u:s.us.length=3
 ul:∀y∈s.us,y.length=3
theorem M9.is{s:gP}(h:M9 s):Ih s:=⟨h.c,h.u,h.ul⟩
def hnd(s:gP):Int:=s.r+s.cs.sum
theorem Ce{s:gP}(h:M9 s):0<=hnd s:=by
 have:=rQ _ h.cn;have:=h.r;unfold hnd; omega
def hands(ss:List gP):Int:=(ss.map hnd).sum
structure fK(y:Yd):Prop where
 nn:y.ns.Nodup
 n1:1<=y.ns.length
 n5:y.ns.length<=5
 lp:y.ps.length=y.ns.length
 lo:y.os.length=y.ns.length
 ls:y.ss.length=y.ns.length
 lt:y.ts.length=y.ns.length
 ng:∀n∈y.ns,∃cs,n=tx cs/\RG cs
 pg:∀x∈y.ps,Ge x
 og:∀(i:Nat) s,y.os[i]?=some (some s)->s∈y.ns.drop (i+1)
 sg:∀s∈y.ss,M9 s
 tg:∀t∈y.ts,t.length=3
 hs:hands y.ss<=y.tot
 lm:(y.ps.map fU.lo).sum<=y.tot
 pn:y.pa.length<=500
 pl:∀r∈y.pa,r.length<=5
abbrev T3:=Str×fU×Option Str
def I_(t:T3):PyData:=.tuple [.str t.1,jq t.2.1,zR t.2.2]
theorem Wo(t:T3):uH (I_ t)=true:=by
 unfold I_;simp[uH,bG,Bm,Qa]
theorem Ar(ts:List T3):bG (ts.map I_)=true:=aW.mpr fun d hd=>by obtain⟨x,_,rfl⟩:=d9.mp hd; exact Wo x
theorem Ot{H:Hp}{t:T3}{v:V}(h:At H (I_ t) v):∃a vp,v=.ref a/\H a=some (.tup [.str t.1,vp,d7 t.2.2])/\At H (jq t.2.1) vp:=by
 obtain⟨a,xs,rfl,h1,h2⟩:=bz h;obtain⟨x0,_,rfl,b0,h2⟩:=aj.aP h2;obtain⟨x1,_,rfl,b1,h2⟩:=aj.aP h2;obtain⟨x2,_,rfl,b2,h2⟩:=aj.aP h2;cases aj.gQ h2;have e0:x0=.str t.1:=by unfold At at b0; exact b0
 have e2:=VJ b2;subst e0 e2;exact⟨a,x1,rfl,h1,b1⟩
structure Rn(H:Hp)(ts:List T3)(ys kI:List V):Prop where
 ly:ys.length=ts.length
 lv:kI.length=ts.length
 at_:∀(i:Nat)(t:T3),ts[i]?=some t->∃a vp,ys[i]?=some (.ref a)/\kI[i]?=some vp/\H a=some (.tup [.str t.1,vp,d7 t.2.2])
 ap:aj H ((ts.map (·.2.1)).map jq) kI
theorem Rn.mono{H H':Hp}{ts:List T3}{ys kI:List V}(h:Rn H ts ys kI)(m:dW H H'):Rn H' ts ys kI:=
 ⟨h.ly,h.lv,fun i t e=>by obtain⟨a,vp,h1,h2,h3⟩:=h.at_ i t e; exact⟨a,vp,h1,h2,m _ _ h3⟩,aj.kp m _ _ (fO _) h.ap⟩
theorem vG{H:Hp}:∀{ts:List T3}{ys:List V},aj H (ts.map I_) ys->∃kI,Rn H ts ys kI
 | [],ys,h=>by
  cases aj.gQ h;exact⟨[],rfl,rfl,fun i t e=>by simp at e,aj.nil⟩
 | t::ts,ys,h=>by
  obtain⟨x,r,rfl,h1,h2⟩:=aj.aP h;obtain⟨a,vp,rfl,e,ap⟩:=Ot h1;obtain⟨kI,g1,g2,g3,g4⟩:=vG h2;refine⟨vp::kI,by simp[g1],by simp[g2],fun i u q=>?_,aj.cons ap g4⟩
  cases i with
  | zero=>cases q; exact⟨a,vp,rfl,rfl,e⟩
  | succ i=>exact g3 i u q
def qF(ts:List T3)(kI:List V)(i:Nat):St:=match ts[i]? with
 | some t=>[some (.str t.1),some (kI.getD i .non),some (d7 t.2.2)]
 | none=>[none,none,none]
theorem ir(ts:List T3)(kI:List V)(i:Nat):(qF ts kI i).length=3:=by
 unfold qF;cases ts[i]? <;> rfl
theorem uc{K:Frag}{H:Hp}{ts:List T3}{ys kI:List V}(h:Rn H ts ys kI){i:Nat}{x:V}(hx:ys[i]?=some x){cap:St}{R:St->Hp->Prop}(q:R (qF ts kI i++cap) H):Mp K 3 (jQ (fj 0) (jQ (fj 1) (jQ (fj 2) Cp))) x (List.replicate 3 none++cap) H R:=by
 have hi:i<ts.length:=by rw[<- h.ly]; exact(iW.mp hx).1
 have et:ts[i]?=some ts[i]:=cN hi;obtain⟨a,vp,h1,h2,h3⟩:=h.at_ i _ et;rw[hx] at h1;cases h1;refine⟨a,_,rfl,dU.of h3,rfl,?_⟩;unfold qF at q;rw[et] at q;dsimp only at q;rw[iI,h2] at q;exact q
theorem g_{ts:List T3}{kI:List V}{i:Nat}{t:T3}(e:ts[i]?=some t):qF ts kI i=[some (.str t.1),some (kI.getD i .non),some (d7 t.2.2)]:=by
 unfold qF; rw[e]
theorem oA{H:Hp}:∀{ns:List Str}{ys:List V},aj H (ns.map .str) ys->ys=ns.map V.str
 | [],_,h=>aj.gQ h
 | n::ns,ys,h=>by
  obtain⟨x,r,rfl,h1,h2⟩:=aj.aP h;have e:x=.str n:=by unfold At at h1; exact h1
  rw[e,oA h2]; rfl
theorem vH(ns:List Str):bG (ns.map PyData.str)=true:=aW.mpr fun d hd=>by obtain⟨z,_,rfl⟩:=d9.mp hd; rfl
structure ZL(K:Frag)(mg:Str->Option AA)(bB:Addr):Prop where
 Dg:mg "BadYard" = some (.ref bB)
 wN:excIn K bB Wj "ValueError.__new__" = true
 HH:exmOne K (.ref bB) (.ref bB)=some true
variable{bB:Addr}
def Ax(CB:Addr):Sp:=fun vs H Q E=>∃(t:Int)(p:Addr)(ys:List V)(xs:List fU),vs=[.int t,.ref p]/\H p=some (.lst ys)/\aj H (xs.map jq) ys/\xs.length<=100/\((xs.map fU.lo).sum<=t->∀H',aJ H H'->Q .non H')/\(t<(xs.map fU.lo).sum->∀H',aJ H H'->E (.ref CB) none H')
theorem m9:aX AO AO (aG jY):=(by walk_at "c")
theorem wK(F:i_ K "check_least" "check_least" jY f fd)(B:Bi mg)(Z:ZL K mg bB):bH P w K mg base (mz P w) (k+1) f fd AO (Ax bB):=by
 refine F.okE m9 (hbody:=fun cdv A outer s H vs Q E Nh hr h=>?_)
 obtain⟨t,p,ys,xs,rfl,hp,ha,hl,q,qE⟩:=h;have ND:=m9.nd;refine⟨_,(aH (cM (bu zQ (pb (fZ rfl) B.sum n_ (ao (dH (N':=["post"]) (js:=[]) rfl (bV (K:=K) rfl (pv 1)) uq.Xp rfl ⋯ rfl (fun fp s' H'=>(bx bh (bx bh (pv 0) aA (fun _ _=>rfl)) aA (fun _ _=>rfl)))) ak)) (pv 0) (bf _)) (aH (Eu ⟨Z.Dg,Z.wN⟩ Nh (ao fG ak))) bF)),?_⟩
 ext;have hlen:=ha.length;rw[bZ] at hlen;refine oN ((xs.map fU.lo).map .int) (fun R hR=>by ext; exact hR) hp (by simp; omega) ∅ (iD _) (fun i x d H' hx hd s' R hR=>?_) fun acc zs H' f' s' e' a'=>?_
 ·rw[cD,cD] at hd;obtain⟨d',hd',ad⟩:=ha.get hx;rw[cD] at hd';cases ex:xs[i]? with
  | none=>rw[ex] at hd; cases hd
  | some x'=>
   rw[ex] at hd hd';cases hd;cases hd';obtain⟨a0,xs0,rfl,h1,h2⟩:=bz (ad.mono s');obtain⟨x0,_,rfl,b0,h2⟩:=aj.aP h2;obtain⟨x1,_,rfl,b1,h2⟩:=aj.aP h2;obtain⟨x2,_,rfl,b2,h2⟩:=aj.aP h2;obtain⟨c0,cs0,rfl,g1,g2⟩:=bz b2;have:=cX (cs:=[x'.lo,x'.hi]) g2;subst this;ext;refine Ix.tup h1 (aY (j:=2) rfl) (Ix.tup g1 (aY (j:=0) rfl) ?_);exact hR _ _ (aJ.refl _) (At.int _)
 ·have:=cX a';subst this;refine⟨acc,_,rfl,.inl e',?_⟩;by_cases hs:t<(xs.map fU.lo).sum
  ·rw[aV (by simpa using hs)]
   exact⟨by show 1<=sizeLine; decide,fun H2 s2=>qE hs _ (s'.trans s2)⟩
  ·rw[aN (by simpa using hs)]
   exact q ∅ H' s'
def Je(CB:Addr):Sp:=fun vs H Q E=>∃(o:Option Str)(p:Addr)(ns:List Str),vs=[d7 o,.ref p]/\H p=some (.lst (ns.map V.str))/\((∀z,o=some z->z∈ns)->∀H',aJ H H'->Q .non H')/\(∀z,o=some z->z∉ns->∀H',aJ H H'->E (.ref CB) none H')
theorem mF:aX AQ AQ (aG jf):=(by walk_at "c")
theorem uE(F:i_ K "check_onward" "check_onward" jf f fd)(Z:ZL K mg bB):bH P w K mg base (mz P w) (k+1) f fd AQ (Je bB):=by
 refine F.okE mF (hbody:=fun cdv A outer s H vs Q E Nh hr h=>?_)
 obtain⟨o,p,ns,rfl,hp,q,qE⟩:=h;have ND:=mF.nd;refine⟨_,(aH (cM (PW.pt (Bl (bu uX (pv 0) iR (bf _)) (uU (bu (zP (K:=K) rfl) (pv 0) (pv 1) (by with_unfolding_all rfl))))) (aH (Eu ⟨Z.Dg,Z.wN⟩ Nh (ao fG ak))) bF)),?_⟩
 ext;cases o with
 | none=>exact⟨trivial,by rw[aN (by simp[d7])]; exact q (fun z e=>by cases e) H (aJ.refl H)⟩
 | some z=>
  refine⟨trivial,?_⟩;rw[aV (by simp[d7])]
  refine⟨p,_,rfl,.inl (cz.of hp),rfl,tu ns,_,rfl,?_⟩;by_cases hz:z∈ns
  ·rw[aV rfl,show d7 (some z)=.str z from rfl,vd,mU hz,aN ⋯]
   exact q (fun z' e=>by cases e; exact hz) H (aJ.refl H)
  ·rw[aV rfl,show d7 (some z)=.str z from rfl,vd,j4 hz,aV ⋯]
   exact⟨by show 1<=sizeLine; decide,fun H2 s2=>qE z rfl hz _ s2⟩
def Ox:Sp:=fun vs H Q _=>∃(t:Int)(p p':Addr)(ys zs:List V)(ss:List gP),vs=[.int t,.ref p,.ref p']/\H p=some (.lst ys)/\H p'=some (.lst zs)/\aj H (ss.map xU) zs/\(∀s∈ss,M9 s)/\ys.length=ss.length/\ss.length<=100/\hands ss<=t/\∀H',aJ H H'->Q .non H'
theorem mD:aX AR AR (aG je):=(by walk_at "c")
theorem uD(F:i_ K "check_stands" "check_stands" je f fd)(B:Bi mg)(dh:Ct P w K mg base k "hands_of" ["stand"] uQ):bH P w K mg base ig (k+1) f fd AR Ox:=by
 refine F.ok mD (hbody:=(0:))
 obtain⟨t,p,p',ys,zs,ss,rfl,hp,hp',ha,hS,hl,h100,hh,q⟩:=h;have ND:=mD.nd;refine⟨_,(aq (cM (bu wG (pb (cu (K:=K) rfl) B.len dq (ao (pv 2) ak)) (pb (cu (K:=K) rfl) B.len dq (ao (pv 1) ak)) (bf _)) (aH Ew) bF) (aH (cM (bu zQ (pb (fZ rfl) B.sum n_ (ao (dH (N':=["stand"]) (js:=[]) rfl (bV (K:=K) rfl (pv 2)) uq.Xp rfl ⋯ rfl (fun fp s' H'=>(pf dh hr (ao (pv 0) ak)))) ak)) (pv 0) (bf _)) (aH Ew) bF))),?_⟩
 have hlen:=ha.length;rw[bZ] at hlen;ext;refine⟨p',_,rfl,.inl (cz.of hp'),p,_,rfl,.inl (cz.of hp),?_⟩;ext;rw[aN (by simp; omega)]
 refine oN ((ss.map hnd).map .int) (fun R hR=>by ext; exact hR) hp' (by simp; omega) ∅ (iD _) (fun i x d H' hx hd s' R hR=>?_) fun acc us H' f' s' e' a'=>?_
 ·rw[cD,cD] at hd;obtain⟨d',hd',ad⟩:=ha.get hx;rw[cD] at hd';cases ex:ss[i]? with
  | none=>rw[ex] at hd; cases hd
  | some x'=>
   rw[ex] at hd hd';cases hd;cases hd';obtain⟨a0,xs0,rfl,h1,h2⟩:=bz (ad.mono s');obtain⟨x0,_,rfl,b0,h2⟩:=aj.aP h2;obtain⟨x1,_,rfl,b1,h2⟩:=aj.aP h2;obtain⟨x2,_,rfl,b2,h2⟩:=aj.aP h2;obtain⟨c0,cs0,rfl,g1,g2⟩:=bz b2;have:=cX (cs:=x'.cs) g2;subst this;have e1:x1=.int x'.r:=by unfold At at b1; exact b1
   subst e1;ext;exact⟨_,_,_,_,_,_,_,rfl,rfl,h1,g1,hR _ _ (aJ.refl _) (At.int _)⟩
 ·have:=cX a';subst this;refine⟨acc,_,rfl,.inl e',?_⟩;rw[aN (by unfold hands at hh; simpa using hh)]
  exact q H' s'
structure Ig(t:Int)(ts:List T3):Prop where
 n1:1<=ts.length
 n5:ts.length<=5
 nn:(ts.map (·.1)).Nodup
 ng:∀x∈ts,∃cs,x.1=tx cs/\RG cs
 og:∀(i:Nat)(x:T3) z,ts[i]?=some x->x.2.2=some z->z∈(ts.map (·.1)).drop (i+1)
 lm:((ts.map (·.2.1)).map fU.lo).sum<=t
def Vu:Sp:=fun vs H Q _=>∃(t:Int)(p:Addr)(ys:List V)(ts:List T3),vs=[.int t,.ref p]/\H p=some (.lst ys)/\aj H (ts.map I_) ys/\Ig t ts/\∀H',aJ H H'->Q .non H'
theorem m8:aX ["total","posts","names","place","name","post","onward"] AO (aG jX):=(by walk_at "c")
theorem wJ(F:i_ K "check_posts" "check_posts" jX f fd)(B:Bi mg)(O:Co K mg)(tK:Ct P w K mg base k "is_name" ["thing"] GJ)(dz:Rt P w K mg base k "check_onward" AQ (Je bB))(j9:Rt P w K mg base k "check_least" AO (Ax bB)):bH P w K mg base ig (k+1) f fd AO Vu:=by
 refine F.ok m8 (hbody:=(0:))
 obtain⟨t,p,ys,ts,rfl,hp,ha,T,q⟩:=h;have ND:=m8.nd;refine⟨_,(aq (cM (jo (Et JL JL aA (pb (cu (K:=K) rfl) B.len dq (ao (pv 1) ak)) (Bs O.Ij))) (aH Ew) bF) (aq (wD (i:=2) ND rfl (by walk_at "o") (nt:=3) (N':=["name","post","onward"]) (js:=[]) rfl (bV (K:=K) rfl (pv 1)) pF.of (fun fp s' H'=>(bQ (K:=K) (n:=3) rfl rfl (aD (aFN AS 0) (aD (aFN AS 1) (aD (aFN AS 2) bO))))) (fun fp s' H'=>gH) (fun fp s' H'=>(pv 0))) (aq (cM (PW.pt (qR (bu ud (pb Ad B.len dq (ao (pt (Ac rfl) B.set Rf (ao (pv 2) ak)) ak)) (pb (cu (K:=K) rfl) B.len dq (ao (pv 2) ak)) (bf _)) (lL (jo (dD (pb (iZ rfl) B.all tO (ao (dH (N':=["name"]) (js:=[]) rfl (bV (K:=K) rfl (pv 2)) uq.Xp rfl ⋯ rfl (fun fp s' H'=>(pf tK hr (ao (pv 0) ak)))) ak))))))) (aH Ew) bF) (aq (iQ PassesOwn.never rfl (JF (K:=K) rfl B.enumerate (ao (pv 1) ak)) (bQ (K:=K) (n:=2) rfl rfl (aD (aF (i:=3)) (aD (bQ (K:=K) (n:=3) rfl rfl (aD (aF (i:=4)) (aD (aF (i:=5)) (aD (aF (i:=6)) bO)))) bO))) (aH (cT (pf dz.calm hr (ao (pv 6) (ao (cW uR (pv 2) (dG (aO bA (pv 3) aA)) eZ) ak)))))) (aH (cT (pf j9.calm hr (ao (pv 0) (ao (iz (nt:=3) (N':=["name","post","onward"]) (js:=[]) rfl (bV (K:=K) rfl (pv 1)) pF.of (fun fp s' H'=>(bQ (K:=K) (n:=3) rfl rfl (aD (aFN AS 0) (aD (aFN AS 1) (aD (aFN AS 2) bO))))) (fun fp s' H'=>gH) (fun fp s' H'=>(pv 1))) ak))))))))),?_⟩
 have hlen:=ha.length;rw[bZ] at hlen;have T1:=T.n1;have T5:=T.n5;simp only[zb 15];ext;refine⟨p,ys,rfl,.inl (cz.of hp),⟨_,_,rfl,rfl,?_⟩⟩;rw[aV (by simp; omega)]
 refine⟨_,_,rfl,rfl,?_⟩;rw[aN (by simp; omega)]
 obtain⟨kI,TA⟩:=vG ha;refine lW ((ts.map (·.1)).map .str) (qF ts kI) (ir ts kI) (fun R hR=>by ext; exact hR) hp (by simp; omega) ∅ (vH _) ?_ ?_
 ·intro i x d H' hx hd s';refine⟨fun R hR=>uc (TA.mono s'.kp) hx hR,fun R hR=>?_⟩;have hi:i<ts.length:=by rw[<- hlen]; exact(iW.mp hx).1
  have et:ts[i]?=some ts[i]:=cN hi;rw[cD,cD,et] at hd;cases hd;rw[g_ et];ext;exact hR _ _ (aJ.refl _) (At.str _)
 ·intro acc us H1 f1 s1 e1 a1;have:=oA a1;subst this;refine⟨acc,ts.map (·.1),rfl,e1,by rw[bZ]; omega,fun pz H2 f2 s2 e2=>⟨pz,_,rfl,e2,?_,acc,_,rfl,.inl (cz.of (s2 _ _ e1)),?_⟩⟩
  ·have:=(oJ (ts.map (·.1))).1;rw[bZ] at this; omega
  have hdc:=oJ (ts.map (·.1));refine⟨_,_,rfl,rfl,?_⟩
  rw[aN (by
   intro z;have z':=Bj z;rw[bZ] at z'
   exact hdc.2.mp ∅ T.nn)]
  have V4:=s2 _ _ e1;have s12:=s1.trans s2;refine oN ((ts.map fun _=>true).map .bool) (fun R hR=>by ext; exact hR) V4 (by simp) (by simp; omega) (aW.mpr fun d hd=>by obtain⟨z,_,rfl⟩:=d9.mp hd; rfl) (fun i x d H' hx hd s' R hR=>?_) fun ab ub H3 f3 s3 e3 a3=>?_
  ·rw[cD,cD] at hx hd;cases et:ts[i]? with
   | none=>rw[et] at hx; cases hx
   | some t=>
    rw[et] at hx hd;cases hx;cases hd;obtain⟨cs,ec,hg⟩:=T.ng t (dN et);ext;rw[ec];exact Name.of hg fun cQ s''=>hR _ _ s'' (At.bool _)
  ·have eb:ub=(ts.map fun _=>true).map V.bl:=by
    have gen:∀(bs:List Bool)(us:List V),aj H3 (bs.map .bool) us->us=bs.map V.bl:=by
     intro bs
     induction bs with
     | nil=>intro us h; exact aj.gQ h
     | cons b bs ih=>
      intro us h;obtain⟨x,r,rfl,h1,h2⟩:=aj.aP h;have e:x=.bl b:=by unfold At at h1; exact h1
      rw[e,ih r h2]; rfl
    exact gen _ _ a3
   subst eb;refine⟨ab,_,rfl,e3,?_⟩;rw[aN (by simp)]
   have Jk:=s12.trans s3;have X_:=s3 _ _ V4;rw[yV];ext;refine EK.of (Jk _ _ hp) (fun i σ H'=>∃o3 o4 o5 o6,σ=[some (.int t),some (.ref p),some (.ref acc),o3,o4,o5,o6]/\aJ H3 H') ⟨_,_,_,_,rfl,aJ.refl _⟩ (fun i σ H' _ ⟨_,_,_,_,_,z⟩=>z _ _ (Jk _ _ hp)) ?_ ?_
   ·rintro i x σ H4 p4 hx ⟨o3,o4,o5,o6,rfl,s4⟩ f4;have hi:i<ts.length:=by rw[<- hlen]; exact(iW.mp hx).1
    have et:ts[i]?=some ts[i]:=cN hi;have Vy:=Jk.trans s4;obtain⟨a0,vp,g1,g2,g3⟩:=(TA.mono Vy.kp).at_ i _ et;rw[hx] at g1;cases g1;have s5:=aM f4 (HO.tup [V.int (i:Nat),.ref a0]);have e5:upd H4 p4 (HO.tup [V.int (i:Nat),.ref a0]) p4=some (.tup [V.int (i:Nat),.ref a0]):=aB;generalize upd H4 p4 (HO.tup [V.int (i:Nat),.ref a0])=H5 at s5 e5 ⊢;refine⟨p4,_,rfl,dU.of e5,rfl,?_⟩;ext;refine⟨a0,_,rfl,dU.of (s5 _ _ g3),rfl,?_⟩;ext;have eA:=s5 _ _ (s4 _ _ X_);refine⟨acc,_,rfl,cz.of eA,fun q6 f6=>?_⟩;rw[lA ∅,show((i:Int)+1).toNat=i+1 by omega,<- zq]
    have s6:=aM f6 (HO.lst (((ts.map (·.1)).drop (i+1)).map V.str));refine(show Je bB _ _ _ E0 from⟨_,q6,_,rfl,aB,fun _ H7 s7=>⟨_,_,_,_,rfl,s4.trans (s5.trans (s6.trans s7))⟩,fun z hz hn=>absurd (T.og i _ z et hz) hn⟩)
   ·rintro σ H4 ⟨o3,o4,o5,o6,rfl,s4⟩;ext;have Vy:=Jk.trans s4;refine lW ((ts.map (·.2.1)).map jq) (qF ts kI) (ir ts kI) (fun R hR=>by ext; exact hR) (Vy _ _ hp) (by simp; omega) ∅ (fO _) ?_ ?_
    ·intro i x d H' hx hd s';have TB:=TA.mono (Vy.trans s').kp;refine⟨fun R hR=>uc TB hx hR,fun R hR=>?_⟩;have hi:i<ts.length:=by rw[<- hlen]; exact(iW.mp hx).1
     have et:ts[i]?=some ts[i]:=cN hi;obtain⟨vp,ev,av⟩:=TB.ap.nth hd;rw[g_ et];ext;rw[iI,ev];exact hR _ _ (aJ.refl _) av
    ·intro ac2 us2 H5 f5 s5 e5 a5;exact(show Ax bB _ _ _ E0 from⟨t,ac2,us2,ts.map (·.2.1),rfl,e5,a5,by simp; omega,fun _ H6 s6=>q H6 (Vy.trans (s5.trans s6)),fun z=>absurd T.lm ∅⟩)
def Uw(t:Int):List (Str×V):=[("total",.int t)]
theorem pf1(t:Int):jm "total" (.int t) []=Uw t:=by kernel_rfl
def QT(t:Int)(lo:Addr):List (Str×V):=[("total",.int t),("order",.ref lo)]
theorem pf2(t:Int)(lo:Addr):jm "order" (.ref lo) (Uw t)=QT t lo:=by kernel_rfl
def Np(t:Int)(lo dp:Addr):List (Str×V):=[("total",.int t),("order",.ref lo),("posts",.ref dp)]
theorem pf3(t:Int)(lo dp:Addr):jm "posts" (.ref dp) (QT t lo)=Np t lo dp:=by kernel_rfl
def Nk(t:Int)(lo dp dn:Addr):List (Str×V):=[("total",.int t),("order",.ref lo),("posts",.ref dp),("onwards",.ref dn)]
theorem pf4(t:Int)(lo dp dn:Addr):jm "onwards" (.ref dn) (Np t lo dp)=Nk t lo dp dn:=by kernel_rfl
def Nj(t:Int)(lo dp dn ds:Addr):List (Str×V):=[("total",.int t),("order",.ref lo),("posts",.ref dp),("onwards",.ref dn),("stands",.ref ds)]
theorem pf5(t:Int)(lo dp dn ds:Addr):jm "stands" (.ref ds) (Nk t lo dp dn)=Nj t lo dp dn ds:=by kernel_rfl
def Rx(t:Int)(lo dp dn ds dt:Addr):List (Str×V):=[("total",.int t),("order",.ref lo),("posts",.ref dp),("onwards",.ref dn),("stands",.ref ds),("tallies",.ref dt)]
theorem pf6(t:Int)(lo dp dn ds dt:Addr):jm "tallies" (.ref dt) (Nj t lo dp dn ds)=Rx t lo dp dn ds dt:=by kernel_rfl
def fl7(t:Int)(lo dp dn ds dt lp:Addr):List (Str×V):=[("total",.int t),("order",.ref lo),("posts",.ref dp),("onwards",.ref dn),("stands",.ref ds),("tallies",.ref dt),("past",.ref lp)]
theorem pf7(t:Int)(lo dp dn ds dt lp:Addr):jm "past" (.ref lp) (Rx t lo dp dn ds dt)=fl7 t lo dp dn ds dt lp:=by kernel_rfl
theorem Mt(t:Int)(lo dp dn:Addr):(Nk t lo dp dn).lookup ("order" : Str)=some (.ref lo):=by kernel_rfl
theorem Ms(t:Int)(lo dp dn ds:Addr):(Nj t lo dp dn ds).lookup ("order" : Str)=some (.ref lo):=by kernel_rfl
def fH(x:fU):gP:=⟨0,x.lo,[0,0,0,0,0],0,0,[[0,0,0],[0,0,0],[0,0,0]]⟩
def yq(t:Int)(ts:List T3)(ss:List gP):Yd:=⟨t,ts.map (·.1),ts.map (·.2.1),ts.map (·.2.2),ss,ts.map fun _=>[0,0,0],[]⟩
def Gz(C:Addr):Sp:=fun vs H Q _=>∃(y dx:Addr)(t:Int)(p:Addr)(ys:List V)(ts:List T3)(sv:V)(ss:List gP),vs=[.ref y,.int t,.ref p,sv]/\H y=some (.ins C dx [])/\H p=some (.lst ys)/\aj H (ts.map I_) ys/\Ig t ts/\(∀x∈ts,Ge x.2.1)/\((sv=.non/\ss=ts.map fun x=>fH x.2.1)\/∃l zs,sv=.ref l/\H l=some (.lst zs)/\aj H (ss.map xU) zs)/\ss.length=ts.length/\(∀z∈ss,M9 z)/\hands ss<=t /\
 ∀a H',a.p=y->bD C H' a (yq t ts ss)->a.uV=[]->(∀b∈a.own,b=y\/H b=none)->Fr [y] H H'->Q .non H'
theorem jP:aX AT AT (aG gU):=(by walk_at "c")
theorem qU{C T:Addr}(F:Il K "__init__" "Yard.__init__" gU f fd T)(B:Bi mg)(Z:ZY K C)(j8:Ct P w K mg base k "check_posts" AO Vu)(j7:Ct P w K mg base k "first_stand" ["post"] Jg)(jE:Ct P w K mg base k "check_stands" AR Ox):bH P w K mg base (mz P w) (k+1) f fd AT (Gz C):=by
 refine F.okE jP (hbody:=fun cdv A outer s H vs Q E Nh hr h=>?_)
 obtain⟨y,dx,t,p,ys,ts,sv,ss,rfl,hy,hp,ha,T3,hps,hsv,hls,hS,hh,q⟩:=h;have ND:=jP.nd;refine⟨_,(aq (cT (pf j8 hr (ao (pv 1) (ao (pv 2) ak)))) (aq (cM (bu Bw (pv 3) iR (bf _)) (aH (wD (i:=3) ND rfl (by walk_at "o") (nt:=3) (N':=["name","post","onward"]) (js:=[]) rfl (bV (K:=K) rfl (pv 2)) pF.of (fun fp s' H'=>(bQ (K:=K) (n:=3) rfl rfl (aD (aFN AS 0) (aD (aFN AS 1) (aD (aFN AS 2) bO))))) (fun fp s' H'=>gH) (fun fp s' H'=>(pf j7 hr (ao (pv 1) ak))))) bF) (aq (cT (pf jE hr (ao (pv 1) (ao (pv 2) (ao (pv 3) ak))))) (aq (lM (K:=K) rfl (pv 0) (pv 1)) (aq (lM (K:=K) rfl (pv 0) (iz (nt:=3) (N':=["name","post","onward"]) (js:=[]) rfl (bV (K:=K) rfl (pv 2)) pF.of (fun fp s' H'=>(bQ (K:=K) (n:=3) rfl rfl (aD (aFN AS 0) (aD (aFN AS 1) (aD (aFN AS 2) bO))))) (fun fp s' H'=>gH) (fun fp s' H'=>(pv 0)))) (aq (lM (K:=K) rfl (pv 0) (wF (nt:=3) (N':=["name","post","onward"]) (js:=[]) rfl (bV (K:=K) rfl (pv 2)) qC.of (fun fp s' H'=>(bQ (K:=K) (n:=3) rfl rfl (aD (aFN AS 0) (aD (aFN AS 1) (aD (aFN AS 2) bO))))) (fun fp s' H'=>(pv 0)) (fun fp s' H'=>(pv 1)))) (aq (lM (K:=K) rfl (pv 0) (wF (nt:=3) (N':=["name","post","onward"]) (js:=[]) rfl (bV (K:=K) rfl (pv 2)) qC.of (fun fp s' H'=>(bQ (K:=K) (n:=3) rfl rfl (aD (aFN AS 0) (aD (aFN AS 1) (aD (aFN AS 2) bO))))) (fun fp s' H'=>(pv 0)) (fun fp s' H'=>(pv 2)))) (aq (lM (K:=K) rfl (pv 0) (Ha rfl B.dict B.zip (ao (cH (K:=K) rfl (pv 0)) (ao (pv 3) ak)))) (aq (lM (K:=K) rfl (pv 0) (wF (nt:=1) (N':=["name"]) (js:=[]) rfl (bV (K:=K) rfl (cH (K:=K) rfl (pv 0))) qC.of (fun fp s' H'=>(aFN ["name"] 0)) (fun fp s' H'=>(pv 0)) (fun fp s' H'=>(bw (ao aA (ao aA (ao aA ak))))))) (aH (lM (K:=K) rfl (pv 0) (cG ak)))))))))))),?_⟩
 have hlen:=ha.length;rw[bZ] at hlen;have T1:=T3.n1;have T5:=T3.n5;obtain⟨kI,TA⟩:=vG ha;simp only[Jh];ext;refine⟨t,p,ys,ts,rfl,hp,ha,T3,fun H1 s1=>?_⟩;refine kJ.of (R:=fun σ H'=>∃l zs,σ=[some (.ref y),some (.int t),some (.ref p),some (.ref l)]/\H' l=some (.lst zs)/\aj H' (ss.map xU) zs/\aJ H H') ?_ ?_
 ·rintro σ H2 ⟨l,zs,rfl,e2,a2,s2⟩;ext;have lz:=a2.length;rw[bZ] at lz;refine⟨t,p,l,ys,zs,ss,rfl,s2 _ _ hp,e2,a2,hS,∅,∅,hh,fun H3 s3=>?_⟩
  have s23:=s2.trans s3;refine⟨y,C,dx,[],rfl,s23 _ _ hy,Z.cl,Z.n1,⋯,?_⟩
  have py:p≠y:=fun z=>by rw[z,hy] at hp; cases hp
  have ly:l≠y:=fun z=>by rw[z,s2 _ _ hy] at e2; cases e2
  have stp:∀{G:Hp}{fs fs':List (Str×V)},G y=some (.ins C dx fs)->Fr [y] H G->Fr [y] H (upd G y (.ins C dx fs'))/\dW G (upd G y (.ins C dx fs')):=fun {G fs fs'} g fr=>⟨fr.trans (Fr.put (by simp)),dW.put fun xs z=>by rw[g] at z; cases z⟩
  have gy3:H3 y=some (.ins C dx []):=s23 _ _ hy;have r3:Fr [y] H H3:=s23.fr _;obtain⟨r3',k3⟩:=stp (fs':=Uw t) gy3 r3;have TA3:=TA.mono (s23.kp.trans k3);have z3':=aj.kp k3 _ _ (fM _) (a2.mono s3);have hp3:upd H3 y (.ins C dx (Uw t)) p=some (.lst ys):=by rw[aC py]; exact s23 _ _ hp
  have hl3:upd H3 y (.ins C dx (Uw t)) l=some (.lst zs):=by rw[aC ly]; exact s3 _ _ e2
  have X4:upd H3 y (.ins C dx (Uw t)) y=some (.ins C dx (Uw t)):=aB;rw[pf1];generalize upd H3 y (.ins C dx (Uw t))=K3 at r3' k3 TA3 z3' hp3 hl3 X4 ⊢;refine lW ((ts.map (·.1)).map .str) (qF ts kI) (ir ts kI) (fun R hR=>by ext; exact hR) hp3 (by simp; omega) ∅ (vH _) ?_ ?_
  ·intro i x d H' hx hd s';refine⟨fun R hR=>uc (TA3.mono s'.kp) hx hR,fun R hR=>?_⟩;have hi:i<ts.length:=by rw[<- hlen]; exact(iW.mp hx).1
   have et:ts[i]?=some ts[i]:=cN hi;rw[cD,cD,et] at hd;cases hd;rw[g_ et];ext;exact hR _ _ (aJ.refl _) (At.str _)
  intro lo us4 H4 flo s4 elo a4;have:=oA a4;subst this;have gy4:=s4 _ _ X4;refine⟨y,C,dx,Uw t,rfl,gy4,Z.cl,Z.n2,(show 1<1000 by decide),?_⟩
  have JT:lo≠y:=fun z=>by rw[z,X4] at flo; cases flo
  obtain⟨r4',k4⟩:=stp (fs':=QT t lo) gy4 (r3'.trans (s4.fr _));have TA4:=TA3.mono (s4.kp.trans k4);have z4':=aj.kp k4 _ _ (fM _) (z3'.mono s4);have hp4:upd H4 y (.ins C dx (QT t lo)) p=some (.lst ys):=by rw[aC py]; exact s4 _ _ hp3
  have hl4:upd H4 y (.ins C dx (QT t lo)) l=some (.lst zs):=by rw[aC ly]; exact s4 _ _ hl3
  have XS:upd H4 y (.ins C dx (QT t lo)) lo=some (.lst ((ts.map (·.1)).map V.str)):=by rw[aC JT]; exact elo
  have Us:upd H4 y (.ins C dx (QT t lo)) y=some (.ins C dx (QT t lo)):=aB
  have Y_:∀b,upd H4 y (.ins C dx (QT t lo)) b=none->H b=none:=fun b z=>by
   cases q':H b with
   | none=>rfl
   | some o=>
    by_cases e:b=y
    ·rw[e,Us] at z; cases z
    ·rw[r4' b o q' (by simpa using e)] at z; cases z
  have adP:H lo=none:=by
   cases q':H lo with
   | none=>rfl
   | some o=>rw[r3' lo o q' (by simpa using JT)] at flo; cases flo
  rw[pf2];generalize upd H4 y (.ins C dx (QT t lo))=K4 at r4' k4 TA4 z4' hp4 hl4 XS Us Y_ ⊢;refine vg (ts.map (·.1)) ((ts.map (·.2.1)).map jq) (qF ts kI) (ir ts kI) (fun R hR=>by ext; exact hR) hp4 T3.nn (by simp; omega) (by simp; omega) ∅ (fO _) ?_ ?_
  ·intro i x nm d H' hx hn hd s';have TC:=TA4.mono s'.kp;have hi:i<ts.length:=by rw[<- hlen]; exact(iW.mp hx).1
   have et:ts[i]?=some ts[i]:=cN hi;obtain⟨vp,ev,av⟩:=TC.ap.nth hd;rw[cD,et] at hn;cases hn;rw[g_ et];refine⟨fun R hR=>uc TC hx (by rw[g_ et]; exact hR),fun R hR=>by ext; exact hR,fun R hR=>?_⟩
   ext;rw[iI,ev];exact hR _ _ (aJ.refl _) av
  intro dp v5 H5 fdp s5 edp a5 l5;have gy5:=s5 _ _ Us;refine⟨y,C,dx,QT t lo,rfl,gy5,Z.cl,Z.n3,(show 2<1000 by decide),?_⟩
  have Uz:dp≠y:=fun z=>by rw[z,Us] at fdp; cases fdp
  obtain⟨r5',k5⟩:=stp (fs':=Np t lo dp) gy5 (r4'.trans (s5.fr _));have TA5:=TA4.mono (s5.kp.trans k5);have z5':=aj.kp k5 _ _ (fM _) (z4'.mono s5);have a5':=aj.kp k5 _ _ (fO _) a5;have hp5:upd H5 y (.ins C dx (Np t lo dp)) p=some (.lst ys):=by rw[aC py]; exact s5 _ _ hp4
  have hl5:upd H5 y (.ins C dx (Np t lo dp)) l=some (.lst zs):=by rw[aC ly]; exact s5 _ _ hl4
  have Hu:upd H5 y (.ins C dx (Np t lo dp)) lo=some (.lst ((ts.map (·.1)).map V.str)):=by rw[aC JT]; exact s5 _ _ XS
  have QF:upd H5 y (.ins C dx (Np t lo dp)) dp=some (.dK (zK (ts.map (·.1)) v5)):=by rw[aC Uz]; exact edp
  have Ur:upd H5 y (.ins C dx (Np t lo dp)) y=some (.ins C dx (Np t lo dp)):=aB
  have fH5:∀b,upd H5 y (.ins C dx (Np t lo dp)) b=none->K4 b=none:=fun b z=>by
   cases q':K4 b with
   | none=>rfl
   | some o=>
    by_cases e:b=y
    ·rw[e,Ur] at z; cases z
    ·rw[aC e,s5 _ _ q'] at z; cases z
  rw[pf3];generalize upd H5 y (.ins C dx (Np t lo dp))=K5 at r5' k5 TA5 z5' a5' hp5 hl5 Hu QF Ur fH5 ⊢;refine vg (ts.map (·.1)) ((ts.map (·.2.2)).map zR) (qF ts kI) (ir ts kI) (fun R hR=>by ext; exact hR) hp5 T3.nn (by simp; omega) (by simp; omega) ∅ (TQ _) ?_ ?_
  ·intro i x nm d H' hx hn hd s';have TC:=TA5.mono s'.kp;have hi:i<ts.length:=by rw[<- hlen]; exact(iW.mp hx).1
   have et:ts[i]?=some ts[i]:=cN hi;rw[cD,et] at hn;cases hn;rw[cD,cD,et] at hd;cases hd;rw[g_ et];refine⟨fun R hR=>uc TC hx (by rw[g_ et]; exact hR),fun R hR=>by ext; exact hR,fun R hR=>?_⟩
   ext;exact hR _ _ (aJ.refl _) (Fb _)
  intro dn v6 H6 fdn s6 edn a6 l6;have:=P_ a6;subst this;have gy6:=s6 _ _ Ur;refine⟨y,C,dx,Np t lo dp,rfl,gy6,Z.cl,Z.n4,(show 3<1000 by decide),?_⟩
  have Za:dn≠y:=fun z=>by rw[z,Ur] at fdn; cases fdn
  obtain⟨r6',k6⟩:=stp (fs':=Nk t lo dp dn) gy6 (r5'.trans (s6.fr _));rw[pf4];have ho6:∀b o,b≠y->K5 b=some o->upd H6 y (.ins C dx (Nk t lo dp dn)) b=some o:=fun b o e z=>by rw[aC e]; exact s6 _ _ z
  have z6':=aj.kp k6 _ _ (fM _) (z5'.mono s6);have a56:=aj.kp k6 _ _ (fO _) (a5'.mono s6);have Up:upd H6 y (.ins C dx (Nk t lo dp dn)) dn=some (.dK (zK (ts.map (·.1)) ((ts.map (·.2.2)).map d7))):=by rw[aC Za]; exact edn
  have Mm:upd H6 y (.ins C dx (Nk t lo dp dn)) y=some (.ins C dx (Nk t lo dp dn)):=aB
  have fH6:∀b,upd H6 y (.ins C dx (Nk t lo dp dn)) b=none->K5 b=none:=fun b z=>by
   cases q':K5 b with
   | none=>rfl
   | some o=>
    by_cases e:b=y
    ·rw[e,Mm] at z; cases z
    ·rw[ho6 _ _ e q'] at z; cases z
  generalize upd H6 y (.ins C dx (Nk t lo dp dn))=K6 at r6' k6 z6' a56 Up Mm fH6 ho6 ⊢;refine⟨y,C,dx,Nk t lo dp dn,.ref lo,rfl,Mm,Z.cl,Z.n2,Mt ..,lo,l,(ts.map (·.1)).map Sum.inr,zs,rfl,by rw[uv]; exact ho6 _ _ JT Hu,ho6 _ _ ly hl5,by simp; omega,by simp; omega,fun ds H7 fds s7 eds=>?_⟩
  have ad5:H7 ds=some (.dK (zK (ts.map (·.1)) zs)):=eds.trans (lJ (fun q=>some (HO.dK q)) (vo (ts.map fun x:_K.T3=>x.1) zs [] [] (by simpa using T3.nn) rfl (by simp; omega)))
  refine⟨y,C,dx,Nk t lo dp dn,rfl,s7 _ _ Mm,Z.cl,Z.n5,(show 4<1000 by decide),?_⟩
  have dsy:ds≠y:=fun z=>by rw[z,Mm] at fds; cases fds
  obtain⟨r7',k7⟩:=stp (fs':=Nj t lo dp dn ds) (s7 _ _ Mm) (r6'.trans (s7.fr _));rw[pf5];have Uo:∀b o,b≠y->K6 b=some o->upd H7 y (.ins C dx (Nj t lo dp dn ds)) b=some o:=fun b o e z=>by rw[aC e]; exact s7 _ _ z
  have z7':=aj.kp k7 _ _ (fM _) (z6'.mono s7);have a57:=aj.kp k7 _ _ (fO _) (a56.mono s7);have X3:upd H7 y (.ins C dx (Nj t lo dp dn ds)) ds=some (.dK (zK (ts.map (·.1)) zs)):=by rw[aC dsy]; exact ad5
  have QJ:upd H7 y (.ins C dx (Nj t lo dp dn ds)) y=some (.ins C dx (Nj t lo dp dn ds)):=aB
  have fH7:∀b,upd H7 y (.ins C dx (Nj t lo dp dn ds)) b=none->K6 b=none:=fun b z=>by
   cases q':K6 b with
   | none=>rfl
   | some o=>
    by_cases e:b=y
    ·rw[e,QJ] at z; cases z
    ·rw[Uo _ _ e q'] at z; cases z
  generalize upd H7 y (.ins C dx (Nj t lo dp dn ds))=K7 at r7' k7 z7' a57 X3 QJ fH7 Uo ⊢;refine vg (ts.map (·.1)) ((ts.map fun _=>([0,0,0]:List Int)).map mQ) (fun i=>[some (((ts.map (·.1)).map V.str).getD i .non)]) (fun _=>rfl) (a:=lo) (fun R hR=>by ext; exact⟨y,C,dx,Nj t lo dp dn ds,.ref lo,rfl,QJ,Z.cl,Z.n2,Ms ..,hR⟩) (Uo _ _ JT (ho6 _ _ JT Hu)) T3.nn (by simp) (by simp) (by simp; omega) (jM _) ?_ ?_
  ·intro i x nm d H' hx hn hd s';have ex:((ts.map (·.1)).map V.str).getD i .non=x:=by rw[iI,hx]; rfl
   rw[ex];rw[cD,hn] at hx;cases hx;have hi:i<ts.length:=by have:=(iW.mp hn).1; simpa using this
   have et:ts[i]?=some ts[i]:=cN hi;rw[cD,cD,et] at hd;cases hd;refine⟨fun R hR=>by ext; exact hR,fun R hR=>by ext; exact hR,fun R hR=>?_⟩
   ext;exact⟨⋯,fun p H5 f5 s5 e5=>hR _ _ s5 (At.tup e5 (aj.cons (At.int _) (aj.cons (At.int _) (aj.cons (At.int _) aj.nil))))⟩
  intro dt v8 H8 X5 s8 edt a8 l8;have gy8:=s8 _ _ QJ;refine⟨y,C,dx,Nj t lo dp dn ds,rfl,gy8,Z.cl,Z.n6,(show 5<1000 by decide),?_⟩
  have dty:dt≠y:=fun z=>by rw[z,QJ] at X5; cases X5
  obtain⟨r8',k8⟩:=stp (fs':=Rx t lo dp dn ds dt) gy8 (r7'.trans (s8.fr _));rw[pf6];have YW:∀b o,b≠y->K7 b=some o->upd H8 y (.ins C dx (Rx t lo dp dn ds dt)) b=some o:=fun b o e z=>by rw[aC e]; exact s8 _ _ z
  have z8':=aj.kp k8 _ _ (fM _) (z7'.mono s8);have a58:=aj.kp k8 _ _ (fO _) (a57.mono s8);have a88:=aj.kp k8 _ _ (jM _) a8;have XX:upd H8 y (.ins C dx (Rx t lo dp dn ds dt)) dt=some (.dK (zK (ts.map (·.1)) v8)):=by rw[aC dty]; exact edt
  have Uq:upd H8 y (.ins C dx (Rx t lo dp dn ds dt)) y=some (.ins C dx (Rx t lo dp dn ds dt)):=aB
  have fH8:∀b,upd H8 y (.ins C dx (Rx t lo dp dn ds dt)) b=none->K7 b=none:=fun b z=>by
   cases q':K7 b with
   | none=>rfl
   | some o=>
    by_cases e:b=y
    ·rw[e,Uq] at z; cases z
    ·rw[YW _ _ e q'] at z; cases z
  generalize upd H8 y (.ins C dx (Rx t lo dp dn ds dt))=K8 at r8' k8 z8' a58 a88 XX Uq fH8 YW ⊢;refine⟨⋯,fun lp H9 V2 s9 elp=>?_⟩
  have gy9:=s9 _ _ Uq;refine⟨y,C,dx,Rx t lo dp dn ds dt,rfl,gy9,Z.cl,Z.n7,(show 6<1000 by decide),?_⟩
  have lpy:lp≠y:=fun z=>by rw[z,Uq] at V2; cases V2
  obtain⟨r9',k9⟩:=stp (fs':=fl7 t lo dp dn ds dt lp) gy9 (r8'.trans (s9.fr _));rw[pf7];have ho9:∀b o,b≠y->K8 b=some o->upd H9 y (.ins C dx (fl7 t lo dp dn ds dt lp)) b=some o:=fun b o e z=>by rw[aC e]; exact s9 _ _ z
  have adH:upd H9 y (.ins C dx (fl7 t lo dp dn ds dt lp)) lp=some (.lst []):=by rw[aC lpy]; exact elp
  have lo8:=YW _ _ JT (Uo _ _ JT (ho6 _ _ JT Hu));have dp8:=YW _ _ Uz (Uo _ _ Uz (ho6 _ _ Uz QF));have dn8:=YW _ _ Za (Uo _ _ Za Up);have ds8:=YW _ _ dsy X3;refine q ⟨y,lo,dp,dn,ds,dt,lp,[]⟩ _ rfl ⟨⟨dx,aB⟩,ho9 _ _ JT lo8,⟨v5,ho9 _ _ Uz dp8,aj.kp k9 _ _ (fO _) (a58.mono s9)⟩,ho9 _ _ Za dn8,⟨zs,ho9 _ _ dsy ds8,aj.kp k9 _ _ (fM _) (z8'.mono s9)⟩,⟨v8,ho9 _ _ dty XX,aj.kp k9 _ _ (jM _) (a88.mono s9)⟩,adH,trivial,?_⟩ rfl ?_ r9'
  ·have ne:∀{G:Hp}{u v:Addr}{o:HO},G u=some o->G v=none->u≠v:=fun e1 e2 z=>by rw[z,e2] at e1; cases e1
   show[y,lo,dp,dn,ds,dt,lp].Nodup;have lo7:=Uo _ _ JT (ho6 _ _ JT Hu);have dp7:=Uo _ _ Uz (ho6 _ _ Uz QF);have dn7:=Uo _ _ Za Up;simp only[jK,bK,fD,not_or,or_false,not_false_eq_true,List.nodup_nil,and_true];exact⟨⟨JT.symm,Uz.symm,Za.symm,dsy.symm,dty.symm,lpy.symm⟩,⟨ne XS fdp,ne Hu fdn,ne (ho6 _ _ JT Hu) fds,ne lo7 X5,ne lo8 V2⟩,⟨ne QF fdn,ne (ho6 _ _ Uz QF) fds,ne dp7 X5,ne dp8 V2⟩,⟨ne Up fds,ne dn7 X5,ne dn8 V2⟩,⟨ne X3 X5,ne ds8 V2⟩,ne XX V2⟩
  ·intro b hb
   replace hb:b∈[y,lo,dp,dn,ds,dt,lp]:=hb
   simp only[bK,fD,or_false] at hb;rcases hb with rfl | rfl | rfl | rfl | rfl | rfl | rfl
   ·exact .inl rfl
   ·exact .inr adP
   ·exact .inr (Y_ _ fdp)
   ·exact .inr (Y_ _ (fH5 _ fdn))
   ·exact .inr (Y_ _ (fH5 _ (fH6 _ fds)))
   ·exact .inr (Y_ _ (fH5 _ (fH6 _ (fH7 _ X5))))
   ·exact .inr (Y_ _ (fH5 _ (fH6 _ (fH7 _ (fH8 _ V2)))))
 ·intro N hN;ext;rcases hsv with⟨rfl,rfl⟩ | ⟨l,zs,rfl,hl,az⟩
  ·refine⟨trivial,?_⟩;rw[aV ⋯]
   have TB:=TA.mono s1.kp;refine lW ((ts.map fun x=>fH x.2.1).map xU) (qF ts kI) (ir ts kI) (fun R hR=>by ext; exact hR) (s1 _ _ hp) (by simp; omega) ∅ (fM _) ?_ ?_
   ·intro i x d H' hx hd s';have TC:=TB.mono s'.kp;refine⟨fun R hR=>uc TC hx hR,fun R hR=>?_⟩;have hi:i<ts.length:=by rw[<- hlen]; exact(iW.mp hx).1
    have et:ts[i]?=some ts[i]:=cN hi;obtain⟨vp,ev,av⟩:=TC.ap.nth (d:=jq ts[i].2.1) (by rw[cD,cD,et]; rfl)
    rw[cD,cD,et] at hd;cases hd;rw[g_ et];ext;rw[iI,ev];exact⟨vp,_,rfl,av,fun u cQ s'' au=>hR _ _ s'' au⟩
   ·intro l zs H2 f2 s2 e2 a2;exact hN _ _ ⟨l,zs,rfl,e2,a2,s1.trans s2⟩
  ·refine⟨trivial,?_⟩;rw[aN (by simp)]
   exact hN _ _ ⟨l,zs,rfl,s1 _ _ hl,az.mono s1,s1⟩
theorem aeu{x:Option V}{σ:St}:bW [0] (x::σ)=[x]:=rfl
theorem Ga{H:Hp}:∀{bs:List Bool}{us:List V},aj H (bs.map .bool) us->us=bs.map V.bl
 | [],_,h=>aj.gQ h
 | b::bs,us,h=>by
  obtain⟨x,r,rfl,h1,h2⟩:=aj.aP h;have e:x=.bl b:=by unfold At at h1; exact h1
  rw[e,Ga h2]; rfl
def za(C:Addr):Sp:=fun vs H Q _=>∃(a:Ya)(y:Yd)(l:Addr)(ns:List Str),vs=[.ref a.p,.ref l]/\bD C H a y/\H l=some (.lst (ns.map V.str))/\ns.Nodup/\ns.length<=1000/\(∀n∈ns,n∈y.ns)/\∀H',aJ H H'->Q .non H'
theorem iy:aX AU AU (aG fB):=(by walk_at "c")
theorem nF{C:Addr}(F:i_ K "check_names" "Yard.check_names" fB f fd)(B:Bi mg)(Z:ZY K C):bH P w K mg base ig (k+1) f fd AU (za C):=by
 refine F.ok iy (hbody:=(0:))
 obtain⟨a,y,l,ns,rfl,YA,hl,nn,afq,nin,q⟩:=h;have ND:=iy.nd;refine⟨_,(aH (cM (PW.pt (qR (bu ud (pb Ad B.len dq (ao (pt (Ac rfl) B.set Rf (ao (pv 1) ak)) ak)) (pb (cu (K:=K) rfl) B.len dq (ao (pv 1) ak)) (bf _)) (lL (jo (dD (pb (iZ rfl) B.all tO (ao (dH (N':=["name","self"]) (js:=[0]) rfl (bV (K:=K) rfl (pv 1)) uq.mk1 rfl ⋯ rfl (fun fp s' H'=>(du (Xh (K:=K) rfl) (pv 0) (cH (K:=K) rfl (pv 1)) (by with_unfolding_all rfl)))) ak))))))) (aH Ew) bF)),?_⟩
 ext;refine⟨l,ns,rfl,hl,∅,fun pz H2 f2 s2 e2=>⟨pz,_,rfl,e2,?_,l,_,rfl,.inl (cz.of (s2 _ _ hl)),?_⟩⟩
 ·have:=(oJ ns).1;omega
 have hdc:=oJ ns;refine⟨_,_,rfl,rfl,?_⟩
 rw[aN (by
  intro z;have z':=Bj z;rw[bZ] at z'
  exact hdc.2.mp ∅ nn)]
 refine oN ((ns.map fun _=>true).map .bool) (fun R hR=>by ext; exact hR) (s2 _ _ hl) (by simp) (by simp; omega) (aW.mpr fun d hd=>by obtain⟨z,_,rfl⟩:=d9.mp hd; rfl) (fun i x d H' hx hd s' R hR=>?_) fun ab ub H3 f3 s3 e3 a3=>?_
 ·rw[cD] at hx;rw[cD,cD] at hd;cases et:ns[i]? with
  | none=>rw[et] at hx; cases hx
  | some n=>
   rw[et] at hx hd;cases hx;cases hd;rw[aeu];ext;refine Fl.order (Q:=fun v H=>rIn K false (.str n) v H R) Z (YA.mono (s2.trans s')) ?_;refine⟨a.lo,_,rfl,.inl (cz.of (YA.mono (s2.trans s')).lo),rfl,tu _,?_⟩;rw[aN ⋯,vd,mU (nin n (dN et))]
   exact hR _ _ (aJ.refl _) (At.bool _)
 ·have eb:ub=(ns.map fun _=>true).map V.bl:=Ga a3;subst eb;refine⟨ab,_,rfl,e3,?_⟩;rw[aN (by simp)]
  exact q _ (s2.trans s3)
def Z4(C:Addr):Sp:=fun vs H Q _=>∃(a:Ya)(y:Yd),vs=[.ref a.p]/\bD C H a y/\fK y/\∀H',aJ H H'->Q (.int (hands y.ss)) H'
theorem nj:aX ["self"] ["self"] (aG j0):=(by walk_at "c")
theorem wM{C:Addr}(F:i_ K "hands" "Yard.hands" j0 f fd)(B:Bi mg)(Z:ZY K C)(dh:Ct P w K mg base k "hands_of" ["stand"] uQ):bH P w K mg base ig (k+1) f fd ["self"] (Z4 C):=by
 refine F.ok nj (hbody:=(0:))
 obtain⟨a,y,rfl,YA,YO,q⟩:=h;have ND:=nj.nd;refine⟨_,(aH (a_ (pb (fZ rfl) B.sum n_ (ao (JG (dH (N':=["stand"]) (js:=[]) rfl (Tg (K:=K) rfl (cH (K:=K) rfl (pv 0))) uq.Xp rfl ⋯ rfl (fun fp s' H'=>(pf dh hr (ao (pv 0) ak))))) ak)))),?_⟩
 obtain⟨vs,ed,av⟩:=YA.ds;have lv:=av.length;rw[bZ] at lv;have l1:=YO.ls;have l5:=YO.n5;have lz:(zK y.ns vs).length=y.ns.length:=lD ∅
 ext;refine UT (y.ss.map hnd) (fun R hR=>by ext; exact Fl.stands Z YA hR) ed (by rw[bZ,lz]; omega) ∅ (fun i kk x m H' hx hm kp R hR=>?_) fun acc H' f' s' e'=>?_
 ·unfold zK at hx;rw[List.getElem?_zip_eq_some] at hx;obtain⟨d',hd',ad⟩:=av.get hx.2;rw[cD] at hd' hm;cases ex:y.ss[i]? with
  | none=>rw[ex] at hd'; cases hd'
  | some x'=>
   rw[ex] at hd' hm;cases hm;cases hd';obtain⟨a0,xs0,rfl,h1,h2⟩:=bz (At.kp kp _ _ (Av _) ad);obtain⟨x0,_,rfl,b0,h2⟩:=aj.aP h2;obtain⟨x1,_,rfl,b1,h2⟩:=aj.aP h2;obtain⟨x2,_,rfl,b2,h2⟩:=aj.aP h2;obtain⟨c0,cs0,rfl,g1,g2⟩:=bz b2;have:=cX (cs:=x'.cs) g2;subst this;have e1:x1=.int x'.r:=by unfold At at b1; exact b1
   subst e1;ext;exact⟨_,_,_,_,_,_,_,rfl,rfl,h1,g1,hR _ (aJ.refl _)⟩
 ·refine⟨acc,_,rfl,.inl e',?_⟩;exact q _ s'
def vJ(C:Addr)(g:Yd->List PyData):Sp:=fun vs H Q _=>∃(a:Ya)(y:Yd)(i:Nat)(n:Str)(d:PyData),vs=[.ref a.p,.str n]/\bD C H a y/\fK y/\y.ns[i]?=some n/\(g y)[i]?=some d/\∀v H',aJ H H'->At H' d v->Q v H'
def gS(y:Yd):List PyData:=y.ss.map xU
def gO(y:Yd):List PyData:=y.os.map zR
def gT(y:Yd):List PyData:=y.ts.map mQ
theorem m_:aX AV AV (aG jZ):=(by walk_at "c")
theorem wL{C:Addr}(F:i_ K "stand" "Yard.stand" jZ f fd)(Z:ZY K C)(aQ:Df P w K mg base k C "check_names" AU (za C)):bH P w K mg base ig (k+1) f fd AV (vJ C gS):=by
 refine F.ok m_ (hbody:=(0:))
 obtain⟨a,y,i,n,d,rfl,YA,YO,hn,hd,q⟩:=h;have ND:=m_.nd;refine⟨_,(aq (cT (pm aQ hr (pv 0) (ao (cG (ao (pv 1) ak)) ak))) (aH (a_ (bx (pL hr.units) (cH (K:=K) rfl (pv 0)) (pv 1) (fun _ _=>rfl))))),?_⟩;ext;refine Me.of (m:="check_names") (R:=fun p=>_) YA (fun _ _ _ _ _ _ _=>rfl) ?_;refine⟨⋯,fun p H1 f1 s1 e1=>?_⟩
 refine⟨a,y,p,[n],rfl,YA.mono s1,e1,by simp,by simp,by intro m hm; rw[dM.mp hm]; exact dN hn,fun H2 s2=>?_⟩
 have YB:=YA.mono (s1.trans s2);obtain⟨us,ed,av⟩:=YB.ds;obtain⟨v,ev,aw⟩:=av.nth hd;have lv:=av.length;have l1:=YO.ls;rw[bZ] at lv;obtain⟨dx,ob⟩:=YB.ob;exact⟨_,_,_,_,_,rfl,ob,Z.cl,Z.n5,oH ..,_,v,rfl,iV.z ed YO.nn hn ∅ ev,q _ _ (s1.trans s2) aw⟩
theorem mG:aX AV AV (aG jg):=(by walk_at "c")
theorem uF{C:Addr}(F:i_ K "onward" "Yard.onward" jg f fd)(Z:ZY K C)(aQ:Df P w K mg base k C "check_names" AU (za C)):bH P w K mg base ig (k+1) f fd AV (vJ C gO):=by
 refine F.ok mG (hbody:=(0:))
 obtain⟨a,y,i,n,d,rfl,YA,YO,hn,hd,q⟩:=h;have ND:=mG.nd;refine⟨_,(aq (cT (pm aQ hr (pv 0) (ao (cG (ao (pv 1) ak)) ak))) (aH (a_ (bx (pL hr.units) (cH (K:=K) rfl (pv 0)) (pv 1) (fun _ _=>rfl))))),?_⟩;ext;refine Me.of (m:="check_names") (R:=fun p=>_) YA (fun _ _ _ _ _ _ _=>rfl) ?_;refine⟨⋯,fun p H1 f1 s1 e1=>?_⟩
 refine⟨a,y,p,[n],rfl,YA.mono s1,e1,by simp,by simp,by intro m hm; rw[dM.mp hm]; exact dN hn,fun H2 s2=>?_⟩
 have YB:=YA.mono (s1.trans s2);have l1:=YO.lo
 replace hd:(y.os.map zR)[i]?=some d:=hd
 rw[cD] at hd;cases eo:y.os[i]? with
 | none=>rw[eo] at hd; cases hd
 | some o=>
 rw[eo] at hd;cases hd;obtain⟨dx,ob⟩:=YB.ob;exact⟨_,_,_,_,_,rfl,ob,Z.cl,Z.n4,qg ..,_,d7 o,rfl,iV.z YB.dn YO.nn hn (by rw[bZ]; omega) (by rw[cD,eo]; rfl),q _ _ (s1.trans s2) (Fb _)⟩
theorem cg.nth{H:Hp}:∀{ls:List Addr}{rs:List (List Rw)}{i:Nat}{l:Addr},cg H ls rs->ls[i]?=some l->∃r xs,rs[i]?=some r/\H l=some (.lst xs)/\aj H (r.map sy) xs
 | [],[],i,l,_,h=>by simp at h
 | l::ls,r::rs,0,_,h,e=>by cases e; obtain⟨⟨xs,e,a⟩,_⟩:=h; exact⟨r,xs,rfl,e,a⟩
 | l::ls,r::rs,i+1,_,h,e=>cg.nth (i:=i) h.2 e
 | [],_::_,_,_,h,_=>h.elim
 | _::_,[],_,_,h,_=>h.elim
theorem FJ{js:List Nat}{a:Addr}{ls:List Addr}{rs:List (List Rw)}{tl te:TE}{σ:St}{H:Hp}{Q:VK}(hl:∀R:VK,R (.ref a) H->tl σ H R)(ha:H a=some (.lst (ls.map V.ref)))(hz:ls.length<=1000)(hp:cg H ls rs)
  (step:∀(l:Addr) xs H',H' l=some (.lst xs)->∀R:VK,(∀p,H' p=none->R (.ref p) (upd H' p (.lst xs)))->te (some (.ref l)::bW js σ) H' R)
  (fin:∀acc ms H',H acc=none->(∀b∈ms,H b=none)->(acc::ms).Nodup->aJ H H'->H' acc=some (.lst (ms.map V.ref))->cg H' ms rs->Q (.ref acc) H'):iu js (nJ K tl) te σ H Q:=by
 refine hl _ ⟨a,rfl,⟨_,cz.of ha⟩,fun acc hacc=>?_⟩;have lr:=hp.length;refine⟨fun i m ys H2=>m=ls.length-i/\i<=ls.length/\∃ms,ys=ms.map V.ref/\ms.length=i/\cg H2 ms (rs.take i)/\(∀b∈ms,H b=none)/\(acc::ms).Nodup/\aJ H H2/\H2 acc=some (.lst ys),⟨_,rfl,eV _,[],rfl,rfl,trivial,fun b hb=>by simp at hb,by simp,aM hacc _,aB⟩,?_⟩
 rintro i m ys H2 ⟨rfl,hi,ms,rfl,lm,pm,fm,nm,s2,e2⟩;have ht:cz K H2 a (ls.map V.ref):=cz.of (s2 _ _ ha);by_cases hlt:i<ls.length
 ·have el:ls[i]?=some ls[i]:=cN hlt;have elr:(ls.map V.ref)[i]?=some (.ref ls[i]):=by rw[cD,el]; rfl
  refine .inr ⟨⟨_,_,ht,elr⟩,fun x H3 y=>?_⟩;obtain⟨e1,y⟩:=y;subst e1;have ex:=(y _ ht).symm.trans elr;cases ex;obtain⟨r,xs,er,exs,ax⟩:=hp.nth el;refine step _ xs _ (s2 _ _ exs) _ fun p fp=>?_;have pa:p≠acc:=fun z=>by rw[z,e2] at fp; cases fp
  have fp0:H p=none:=by
   cases q':H p with
   | none=>rfl
   | some o=>rw[s2 _ _ q'] at fp; cases fp
  have pm':p∉ms:=fun z=>by
   obtain⟨xs',e'⟩:=pm.all p z;rw[e'] at fp; cases fp
  have sp:=aM fp (HO.lst xs);have k4:dW H3 (upd (upd H3 p (.lst xs)) acc (.lst (ms.map V.ref++[.ref p]))):=sp.kp.trans (dW.putL (sp _ _ e2));refine⟨sp _ _ e2,aR (by rw[bZ]; omega),ls.length-(i+1),∅,rfl,hlt,ms++[p],by rw[gk]; rfl,by rw[cF,lm]; rfl,?_,?_,?_,?_,aB⟩
  ·rw[b8 er];refine cg.snoc (xs:=xs) (pm.keep k4 fun b hb o e=>?_) (by rw[aC pa,aB]) (aj.kp (s2.kp.trans k4) _ _ (eU r) ax)
   rw[aC (fun z=>by rw[z] at hb; exact(jK.mp nm).1 hb)]
   exact sp _ _ e
  ·intro b hb;rcases gm.mp hb with h | h
   ·exact fm b h
   ·rw[dM.mp h]; exact fp0
  ·have:=jK.mp nm;rw[jK,qO];refine⟨fun z=>?_,this.2,by simp,fun u hu v hv e=>?_⟩
   ·rcases gm.mp z with h | h
    ·exact this.1 h
    ·exact pa (dM.mp h).symm
   ·rw[dM.mp hv] at e; rw[e] at hu; exact pm' hu
  ·intro b o z;rw[aC (fun e=>by rw[e,hacc] at z; cases z)]
   exact sp _ _ (s2 _ _ z)
 ·have e:i=ls.length:=by omega
  subst e;rw[lr,mV] at pm;exact .inl ⟨⟨_,ht,by rw[bZ]; exact bc _⟩,fin acc ms H2 hacc fm nm s2 e2 pm⟩
def Vr(C:Addr):Sp:=fun vs H Q _=>∃(a:Ya)(y:Yd),vs=[.ref a.p]/\bD C H a y/\fK y/\∀p ms H',H p=none->(∀b∈ms,H b=none)->(p::ms).Nodup->aJ H H'->H' p=some (.lst (ms.map V.ref))->cg H' ms y.pa->Q (.ref p) H'
theorem pI:aX ["self"] ["self"] (aG lF):=(by walk_at "c")
theorem ye{C:Addr}(F:i_ K "told" "Yard.told" lF f fd)(B:Bi mg)(Z:ZY K C):bH P w K mg base ig (k+1) f fd ["self"] (Vr C):=by
 refine F.ok pI (hbody:=(0:))
 obtain⟨a,y,rfl,YA,YO,q⟩:=h;have ND:=pI.nd;refine⟨_,(aH (a_ (dH (N':=["rows"]) (js:=[]) rfl (bV (K:=K) rfl (cH (K:=K) rfl (pv 0))) uq.Xp rfl ⋯ rfl (fun fp s' H'=>(pt (oU) B.list fP (ao (pv 0) ak)))))),?_⟩
 ext;have l1:=YA.pa.length;have l2:=YO.pn;obtain⟨dx,ob⟩:=YA.ob;refine FJ (fun R hR=>by ext; exact⟨_,_,_,_,_,rfl,ob,Z.cl,Z.n7,J_ ..,hR⟩) YA.lp ∅ YA.pa (fun l xs H' hx R hR=>?_) fun acc ms H' f1 f2 f3 s' e' a'=>?_
 ·ext;exact⟨_,_,rfl,hx,hR⟩
 ·exact q _ _ _ f1 f2 f3 s' e' a'
theorem xn:∀(cs:List Int)(g:Int),(bC cs g).1.sum=cs.sum-g+(bC cs g).2
 | [],g=>by simp[bC]; omega
 | c::cs,g=>by
  have:=xn cs g;rw[bC,sG,sG,this];simp only;generalize (if(bC cs g).2<c then(bC cs g).2 else c)=z
  omega
theorem zZ:∀(cs:List Int)(g:Int),(∀c∈cs,0<=c)->0<=g->(∀c∈(bC cs g).1,0<=c)/\0<=(bC cs g).2/\((bC cs g).2=0\/(bC cs g).1.sum=0)
 | [],g,_,hg=>⟨by simp[bC],by simpa[bC] using hg,.inr (by simp[bC])⟩
 | c::cs,g,h,hg=>by
  obtain⟨h1,h2,h3⟩:=zZ cs g (fun y hy=>h y (dX _ hy)) hg;have hc:=h c eX;rw[bC];simp only;generalize hG:(bC cs g).2=G at *;refine⟨fun y hy=>?_,?_,?_⟩
  ·rcases bK.mp hy with z | z
   ·rw[z]; split <;> omega
   ·exact h1 y z
  ·split <;> omega
  ·rw[sG];split <;> omega
structure Wth(x:fU)(st n:gP)(ch:Int):Prop where
 w:n.w=st.w
 s:n.s=st.s
 u:n.us=st.us
 r:0<=n.r
 c:n.cs.length=5
 cn:∀y∈n.cs,0<=y
 sm:n.r+n.cs.sum=st.r+st.cs.sum+ch
 t:n.t=if ch=0 then st.t else if 0<ch then x.u else x.d
theorem Gq{x:fU}{st:gP}{ch:Int}(ha:x.a<=4)(hr:0<=st.r)(hl:st.cs.length=5)(hc:∀y∈st.cs,0<=y)(hz:0<=st.r+st.cs.sum+ch):Wth x st (gA x st ch) ch:=by
 by_cases c1:ch=0
 ·subst c1;have e:gA x st 0=st:=rfl;rw[e];exact⟨rfl,rfl,rfl,hr,hl,hc,∅,rfl⟩
 ·by_cases c2:0<ch
  ·have e:gA x st ch={ st with cs:=st.cs.take x.a++[st.cs.getD x.a 0+ch]++st.cs.drop (x.a+1),t:=x.u }:=by unfold gA; rw[aN c1,aV c2]
   rw[e];refine⟨rfl,rfl,rfl,hr,?_,?_,?_,?_⟩
   ·simp only[cF,iJ,uw,fC,pW];omega
   ·intro y hy;rcases gm.mp hy with z | z
    ·rcases gm.mp z with z | z
     ·exact hc y (wy z)
     ·rw[dM.mp z];have hlt:x.a<st.cs.length:=by omega
      have:0<=st.cs.getD x.a 0:=by
       rw[iI,cN hlt];exact hc _ (sH hlt)
      omega
    ·exact hc y (Ea z)
   ·show st.r+(st.cs.take x.a++[st.cs.getD x.a 0+ch]++st.cs.drop (x.a+1)).sum=_;obtain⟨y0,y1,y2,y3,y4,ey⟩:=Xx hl;rw[ey];have:x.a=0\/x.a=1\/x.a=2\/x.a=3\/x.a=4:=by omega
    rcases this with e | e | e | e | e <;> rw[e] <;> simp <;> omega
   ·show x.u=_;rw[aN c1,aV c2]
  ·have e:gA x st ch={ st with r:=st.r-(bC st.cs (-ch)).2,cs:=(bC st.cs (-ch)).1,t:=x.d }:=by unfold gA; rw[aN c1,aN c2]
   rw[e];obtain⟨k1,k2,k3⟩:=zZ st.cs (-ch) hc ∅
   have k4:=xn st.cs (-ch);have k5:=rQ _ k1;refine⟨rfl,rfl,rfl,?_,?_,k1,?_,?_⟩
   ·show 0<=st.r-(bC st.cs (-ch)).2;omega
   ·show(bC st.cs (-ch)).1.length=5;rw[qb]; exact hl
   ·show st.r-(bC st.cs (-ch)).2+(bC st.cs (-ch)).1.sum=_;omega
   ·show x.d=_;rw[aN c1,aN c2]
theorem nQ{st:gP}(h:st.cs.length=5):eO st+(st.cs.drop 1++[0]).sum=st.r+st.cs.sum:=by
 obtain⟨a,b,c,d,e,hc⟩:=Xx h;unfold eO;rw[hc];simp;omega
theorem O7{st:gP}(h:st.cs.length=5)(hr:0<=st.r)(hc:∀y∈st.cs,0<=y):0<=eO st:=by
 obtain⟨a,b,c,d,e,ec⟩:=Xx h;have:=hc a (by rw[ec]; exact eX)
 unfold eO; rw[ec]; show 0<=st.r+a; omega
theorem Qj{st:gP}(hc:∀y∈st.cs,0<=y):∀y∈st.cs.drop 1++[0],0<=y:=fun y hy=>by
 rcases gm.mp hy with z | z
 ·exact hc y (Ea z)
 ·rw[dM.mp z]; exact zp 0
structure NxN(x:fU)(st:gP)(c fr:Int):Prop where
 s:M9 (gA x (jw x st c) (xM x st c fr))
 h:hnd (gA x (jw x st c) (xM x st c fr))=hnd st+xM x st c fr
 l:xM x st c fr<=fr\/xM x st c fr<=0
theorem Qh{x:fU}{st:gP}{c fr:Int}(hx:Ge x)(hs:M9 st)(hfr:0<=fr):NxN x st c fr:=by
 have hc5:=hs.c;have h0:=rQ _ hs.cn;have h1:=hs.r;have hlo:=hx.lo;have hhi:=hx.hi
 have hwb:0<=yO x.ji x.lo x.hi (st.r+st.cs.sum) (h_ x st c):=by
  unfold yO;simp only
  repeat' split <;> try omega
 have hbd:0<=st.r+st.cs.sum+xM x st c fr/\(xM x st c fr<=fr\/xM x st c fr<=0):=by
  unfold xM;rw[nQ hc5];split
  ·unfold Cw;split <;> omega
  ·omega
 have hml:(st.cs.drop 1++[0]).length=5:=by simp[hc5]
 have hW:=Gq (x:=x) (st:=jw x st c) (ch:=xM x st c fr) hx.a (O7 hc5 hs.r hs.cn) hml (Qj hs.cn) (by show 0<=eO st+(st.cs.drop 1++[0]).sum+xM x st c fr; rw[nQ hc5]; exact hbd.1)
 have hi:=RV (ch:=xM x st c fr) hx.is (Fo (x:=x) (come:=c) hs.is);refine⟨⟨hW.r,hi.c,hW.cn,hi.u,hi.l⟩,?_,hbd.2⟩;have:=hW.sm;have e:(jw x st c).r+(jw x st c).cs.sum=st.r+st.cs.sum:=nQ hc5;rw[e] at this;exact this
def x0:fU:=⟨1,0,0,0,0,1,0,0,[]⟩
def s0:gP:=⟨0,0,[],0,0,[]⟩
def lq(y:Yd):Int:=if 12<y.tot-hands y.ss then 12 else y.tot-hands y.ss
def lN(y:Yd)(i:Nat):fU:=y.ps.getD i x0
def k_(y:Yd)(i:Nat):gP:=y.ss.getD i s0
def Xg(y:Yd)(i:Nat)(c:Int):gP:=gA (lN y i) (jw (lN y i) (k_ y i) c) (xM (lN y i) (k_ y i) c (lq y))
def Tt(y:Yd)(i:Nat):List Int:=y.ts.getD i []
def sV(y:Yd)(i:Nat)(c:Int):Rw:=⟨y.ns.getD i "",c,gJ (lN y i) (k_ y i) c,c-cY (lN y i) (k_ y i) c,xM (lN y i) (k_ y i) c (lq y)⟩
def U8(t:List Int)(c d a:Int):List Int:=[t.getD 0 0+c,t.getD 1 0+d,t.getD 2 0+a]
def Ng(y:Yd)(i:Nat)(c:Int):Yd:={ y with ss:=y.ss.set i (Xg y i c),ts:=y.ts.set i (U8 (Tt y i) c (sV y i c).d (sV y i c).a) }
theorem Mj{ss:List gP}{i:Nat}{s n:gP}(h:ss[i]?=some s):hands (ss.set i n)=hands ss-hnd s+hnd n:=by
 induction ss generalizing i with
 | nil=>simp at h
 | cons z zs ih=>
  cases i with
  | zero=>cases h; simp only[List.set_cons_zero,hands,jk,sG]; omega
  | succ i=>
   have:=ih (i:=i) h;simp only[List.set_cons_succ,hands,jk,sG] at this ⊢;omega
theorem J9{y:Yd}(YO:fK y):0<=lq y:=by
 have:=YO.hs;unfold lq;split <;> omega
theorem Xf{y:Yd}{i:Nat}{c:Int}(YO:fK y)(hi:i<y.ns.length):fK (Ng y i c):=by
 have l1:=YO.lp;have l2:=YO.ls;have l3:=YO.lt;have es:y.ss[i]?=some y.ss[i]:=cN ∅
 have e1:k_ y i=y.ss[i]:=by unfold k_; rw[iI,es]; rfl
 have e2:lN y i=y.ps[i]:=by unfold lN; rw[iI,cN (by omega:i<y.ps.length)]; rfl
 have N:=Qh (x:=lN y i) (st:=k_ y i) (c:=c) (by rw[e2]; exact YO.pg _ (sH _)) (by rw[e1]; exact YO.sg _ (sH _)) (J9 YO)
 refine { YO with ls:=by show(y.ss.set i _).length=_; rw[DW]; exact l2,lt:=by show(y.ts.set i _).length=_; rw[DW]; exact l3,sg:=?_,tg:=?_,hs:=?_ }
 ·intro s hs;rcases Pg hs with h | h
  ·exact YO.sg s h
  ·rw[h]; exact N.s
 ·intro t ht;rcases Pg ht with h | h
  ·exact YO.tg t h
  ·rw[h]; rfl
 ·show hands (y.ss.set i (Xg y i c))<=y.tot;rw[Mj es];have hN:hnd (Xg y i c)=hnd (k_ y i)+xM (lN y i) (k_ y i) c (lq y):=N.h;rw[hN,e1];have h1:=N.l;rw[e1] at h1;have h2:=YO.hs;have h3:lq y<=y.tot-hands y.ss:=by unfold lq; split <;> omega
  omega
theorem aj.put{H:Hp}{d:PyData}{v:V}(a:At H d v):∀{ds:List PyData}{vs:List V}{i:Nat},aj H ds vs->aj H (ds.set i d) (vs.set i v)
 | [],vs,i,h=>by cases aj.gQ h; exact aj.nil
 | e::ds,vs,i,h=>by
  obtain⟨x,r,rfl,h1,h2⟩:=aj.aP h;cases i with
  | zero=>exact aj.cons a h2
  | succ i=>exact aj.cons h1 (aj.put a h2)
def Z7(C:Addr):Sp:=fun vs H Q _=>∃(a:Ya)(y:Yd)(i:Nat)(n:Str)(c:Int),vs=[.ref a.p,.str n,.int c]/\bD C H a y/\fK y/\y.ns[i]?=some n/\∀v H',bD C H' a (Ng y i c)->Fr [a.ds,a.dt] H H'->At H' (sy (sV y i c)) v->Q v H'
theorem jb:aX ["self","name","come","free","stand","done","away","change","all_come","all_done","all_away"] ["self","name","come"] (aG gD):=(by walk_at "c")
theorem pZ{C:Addr}(F:i_ K "post_beat" "Yard.post_beat" gD f fd)(B:Bi mg)(O:Co K mg)(Z:ZY K C)(kj:Df P w K mg base k C "hands" ["self"] (Z4 C))(lX:RK P w K mg base k "beat_beats" AJ 12 OJ):bH P w K mg base ig (k+1) f fd ["self","name","come"] (Z7 C):=by
 refine F.ok jb (hbody:=(0:))
 obtain⟨a,y,i,n,c,rfl,YA,YO,hn,q⟩:=h;have ND:=jb.nd;refine⟨_,(aq (aU (i:=3) (pb (gb rfl) B.min mq (ao (aO j6 (cH (K:=K) rfl (pv 0)) (pm0 kj hr (pv 0))) (ao (Bs O.Ik) ak)))) (aq (dF (pfa lX hr (ao (bx (pL hr.units) (cH (K:=K) rfl (pv 0)) (pv 1) (fun _ _=>rfl)) (ao (bx (pL hr.units) (cH (K:=K) rfl (pv 0)) (pv 1) (fun _ _=>rfl)) (ao (pv 2) (ao (pv 3) ak))))) (bQ (K:=K) (n:=4) rfl rfl (aD (aF (i:=4)) (aD (aF (i:=5)) (aD (aF (i:=6)) (aD (aF (i:=7)) bO)))))) (aq (dF (pv 4) (nD (cH (K:=K) rfl (pv 0)) (pv 1) (rR hr.units))) (aq (dF (bx (pL hr.units) (cH (K:=K) rfl (pv 0)) (pv 1) (fun _ _=>rfl)) (bQ (K:=K) (n:=3) rfl rfl (aD (aF (i:=8)) (aD (aF (i:=9)) (aD (aF (i:=10)) bO))))) (aq (dF (bw (ao (aO bA (pv 8) (pv 2)) (ao (aO bA (pv 9) (pv 5)) (ao (aO bA (pv 10) (pv 6)) ak)))) (nD (cH (K:=K) rfl (pv 0)) (pv 1) (rR hr.units))) (aH (a_ (bw (ao (pv 1) (ao (pv 2) (ao (pv 5) (ao (pv 6) (ao (pv 7) ak))))))))))))),?_⟩
 ext;obtain⟨dx,ob⟩:=YA.ob;refine⟨_,_,_,_,_,rfl,ob,Z.cl,Z.n1,QR ..,?_⟩;refine Me.of (m:="hands") (R:=fun p=>_) YA (fun _ _ _ _ _ _ _=>rfl) ?_;refine⟨a,y,rfl,YA,YO,fun H1 s1=>?_⟩;have l1:=YO.lp;have l2:=YO.ls;have l3:=YO.lt;have l5:=YO.n5;have hi:i<y.ns.length:=(iW.mp hn).1;have YB:=YA.mono s1;have e1:y.ps[i]?=some (lN y i):=by unfold lN; rw[iI,cN (by omega:i<y.ps.length)]; rfl
 have e2:y.ss[i]?=some (k_ y i):=by unfold k_; rw[iI,cN (by omega:i<y.ss.length)]; rfl
 have e3:y.ts[i]?=some (Tt y i):=by unfold Tt; rw[iI,cN (by omega:i<y.ts.length)]; rfl
 obtain⟨kI,edp,ap⟩:=YB.dp;obtain⟨YD,eds,as⟩:=YB.ds;obtain⟨vp,evp,avp⟩:=ap.nth (i:=i) (d:=jq (lN y i)) (by rw[cD,e1]; rfl)
 obtain⟨vs',evs,avs⟩:=as.nth (i:=i) (d:=xU (k_ y i)) (by rw[cD,e2]; rfl)
 have lp:=ap.length;have ls:=as.length;rw[bZ] at lp ls;have ob1:=s1 _ _ ob;refine⟨_,_,rfl,rfl,?_⟩;refine⟨_,_,_,_,_,rfl,ob1,Z.cl,Z.n3,QS ..,_,vp,rfl,iV.z edp YO.nn hn ∅ evp,_,_,_,_,_,rfl,ob1,Z.cl,Z.n5,oH ..,_,vs',rfl,iV.z eds YO.nn hn ∅ evs,?_⟩
 refine⟨vp,vs',lN y i,k_ y i,c,lq y,rfl,avp,avs,(YO.pg _ (dN e1)).is,(YO.sg _ (dN e2)).is,fun p u' H2 s2 au e4=>?_⟩;refine⟨p,_,rfl,dU.of e4,rfl,?_⟩;ext;have ob2:=s2 _ _ ob1;have s12:=s1.trans s2;have nd:=YA.nd
 have nds:a.ds≠a.p/\a.dt≠a.p/\a.dt≠a.ds:=by
  unfold Ya.own at nd;have:=(qO.mp nd).1;simp only[jK,bK,fD,not_or,or_false] at this;exact⟨Ne.symm this.1.2.2.2.1,Ne.symm this.1.2.2.2.2.1,Ne.symm this.2.2.2.2.1.1⟩
 refine⟨_,_,_,_,_,rfl,ob2,Z.cl,Z.n5,oH ..,_,_,rfl,qz.z (s2 _ _ eds) YO.nn hn ∅ ∅,?_⟩
 obtain⟨Yz,edt,at'⟩:=YA.dt;have ltt:=at'.length;rw[bZ] at ltt;have k3:dW H2 (upd H2 a.ds (.dK (zK y.ns (YD.set i u')))):=dW.putD (s2 _ _ eds);have f3:Fr [a.ds] H2 (upd H2 a.ds (.dK (zK y.ns (YD.set i u')))):=Fr.put (by simp)
 have abh:upd H2 a.ds (.dK (zK y.ns (YD.set i u'))) a.ds=some (.dK (zK y.ns (YD.set i u'))):=aB;generalize upd H2 a.ds (.dK (zK y.ns (YD.set i u')))=H3 at k3 f3 abh ⊢;have ob3:=f3 _ _ ob2 (by simpa using Ne.symm nds.1)
 have X8:=f3 _ _ (s12 _ _ edt) (by simpa using nds.2.2)
 have at3:=aj.kp (s12.kp.trans k3) _ _ (jM _) at';obtain⟨vt,evt,avt⟩:=at3.nth (i:=i) (d:=mQ (Tt y i)) (by rw[cD,e3]; rfl)
 obtain⟨t0,t1,t2,et⟩:∃t0 t1 t2,Tt y i=[t0,t1,t2]:=by
  have:=YO.tg _ (dN e3)
  match Tt y i,this with
  | [t0,t1,t2],_=>exact⟨t0,t1,t2,rfl⟩
 rw[et] at avt;obtain⟨b0,xs0,rfl,h1,h2⟩:=bz avt;have:=cX (cs:=[t0,t1,t2]) h2;subst this;refine⟨_,_,_,_,_,rfl,ob3,Z.cl,Z.n6,qe ..,_,_,rfl,iV.z X8 YO.nn hn ∅ evt,?_⟩
 refine⟨b0,_,rfl,dU.of h1,rfl,?_⟩;ext;refine⟨⋯,fun q4 H4 f4 s4 e5=>?_⟩
 have abg:=s4 _ _ X8;refine⟨_,_,_,_,_,rfl,s4 _ _ ob3,Z.cl,Z.n6,qe ..,_,_,rfl,qz.z abg YO.nn hn ∅ ∅,⋯,fun p6 H6 f6 s6 e6=>?_⟩
 have k5:dW H4 (upd H4 a.dt (.dK (zK y.ns (Yz.set i (.ref q4))))):=dW.putD abg;have f5:Fr [a.dt] H4 (upd H4 a.dt (.dK (zK y.ns (Yz.set i (.ref q4))))):=Fr.put (by simp)
 have abf:upd H4 a.dt (.dK (zK y.ns (Yz.set i (.ref q4)))) a.dt=some (.dK (zK y.ns (Yz.set i (.ref q4)))):=aB;generalize upd H4 a.dt (.dK (zK y.ns (Yz.set i (.ref q4))))=H5 at k5 f5 abf f6 s6;have fr:Fr [a.ds,a.dt] H H6:=(s12.fr _).trans ((f3.sub fun b hb=>.inl (by rw[dM.mp hb]; simp)).trans ((s4.fr _).trans ((f5.sub fun b hb=>.inl (by rw[dM.mp hb]; simp)).trans (s6.fr _))))
 have k26:dW H2 H6:=k3.trans (s4.kp.trans (k5.trans s6.kp));have kp:dW H H6:=s12.kp.trans k26;unfold Ya.own at nd;obtain⟨Lx,nd2,YM⟩:=qO.mp nd;simp only[jK,bK,fD,not_or,or_false] at Lx;obtain⟨⟨n12,n13,n14,n15,n16,n17⟩,⟨n23,n24,n25,n26,n27⟩,⟨n34,n35,n36,n37⟩,⟨n45,n46,n47⟩,⟨n56,n57⟩,n67,_⟩:=Lx;have off:∀{b:Addr}{o:HO},H b=some o->b≠a.ds->b≠a.dt->H6 b=some o:=fun {b o} e h1 h2=>fr b o e (by simp[h1,h2])
 have eqr:sV y i c=⟨n,c,gJ (lN y i) (k_ y i) c,c-cY (lN y i) (k_ y i) c,xM (lN y i) (k_ y i) c (lq y)⟩:=by
  unfold sV;rw[iI,hn]; rfl
 obtain⟨acI,ad6,ap0⟩:=YA.dp;refine q _ H6 ⟨⟨dx,off ob n15 n16⟩,off YA.lo n25 n26,⟨acI,off ad6 n35 n36,aj.kp kp _ _ (fO _) ap0⟩,off YA.dn n45 n46,⟨YD.set i u',?_,?_⟩,⟨Yz.set i (.ref q4),s6 _ _ abf,?_⟩,off YA.lp (Ne.symm n57) (Ne.symm n67),?_,YA.nd⟩ fr ?_
 ·exact s6 _ _ (f5 _ _ (s4 _ _ abh) (by simpa using n56))
 ·show aj H6 ((y.ss.set i (Xg y i c)).map xU) _;rw[wz];exact aj.put (At.kp k26 _ _ (Av _) au) (aj.kp (s2.kp.trans k26) _ _ (fM _) as)
 ·show aj H6 ((y.ts.set i (U8 (Tt y i) c (sV y i c).d (sV y i c).a)).map mQ) _;rw[wz,eqr,et];exact aj.put (At.tup (s6 _ _ (f5 _ _ e5 (by simpa using fun z=>by rw[z,X8] at f4; cases f4))) (dB [t0+c,t1+gJ (lN y i) (k_ y i) c,t2+(c-cY (lN y i) (k_ y i) c)])) (aj.kp kp _ _ (jM _) at')
 ·exact YA.pa.keep kp fun b hb o e=>off e (fun z=>YM a.ds (by simp) b hb z.symm) (fun z=>YM a.dt (by simp) b hb z.symm)
 ·rw[eqr];exact At.tup e6 (aj.cons (At.str _) (aj.cons (At.int _) (aj.cons (At.int _) (aj.cons (At.int _) (aj.cons (At.int _) aj.nil)))))
def UL(q:Str×Int):PyData:=.tuple [.str q.1,.int q.2]
def tQ(z:Yd×List Int×List Rw)(i:Nat):Yd×List Int×List Rw:=
 let c:=z.2.1.getD i 0
 (Ng z.1 i c,match z.1.os.getD i none with
  | none=>z.2.1
  | some o=>z.2.1.set (z.1.ns.idxOf o) (z.2.1.getD (z.1.ns.idxOf o) 0+(sV z.1 i c).d),z.2.2++[sV z.1 i c])
def aZ(y:Yd)(cm:List Int):Nat->Yd×List Int×List Rw
 | 0=>(y,cm,[])
 | i+1=>tQ (aZ y cm i) i
def ql(ns:List Str)(cs:List (Str×Int)):List Int:=ns.map fun n=>(cs.lookup n).getD 0
def yJ(y:Yd)(cs:List (Str×Int)):List Rw:=(aZ y (ql y.ns cs) y.ns.length).2.2
def CV(y:Yd)(cs:List (Str×Int)):Yd:={ (aZ y (ql y.ns cs) y.ns.length).1 with pa:=y.pa++[yJ y cs] }
theorem Q3{H:Hp}{q:Str×Int}{v:V}(h:At H (UL q) v):∃b,v=.ref b/\H b=some (.tup [.str q.1,.int q.2]):=by
 obtain⟨b,xs,rfl,h1,h2⟩:=bz h;obtain⟨x0,_,rfl,b0,h2⟩:=aj.aP h2;obtain⟨x1,_,rfl,b1,h2⟩:=aj.aP h2;cases aj.gQ h2;unfold At at b0 b1;subst b0 b1;exact⟨b,rfl,h1⟩
theorem vh(ns:List Str)(cs:List (Str×Int)):(ql ns cs).length=ns.length:=by unfold ql; rw[bZ]
theorem Q8{ns:List Str}{l:List (Str×Int)}{q:Str×Int}{j:Nat}(nd:ns.Nodup)(hj:ns[j]?=some q.1)(hq:q.1∉l.map (·.1)):ql ns (l++[q])=(ql ns l).set j q.2:=by
 have hjl:j<ns.length:=(iW.mp hj).1
 have hn:l.lookup q.1=none:=Pj.mpr fun p hp=>by
  simp only[bne_iff_ne,ne_eq];intro z;exact hq (by rw[z]; exact List.mem_map_of_mem hp)
 refine List.ext_getElem? fun k=>?_;rw[Eo,vh];unfold ql;rw[cD,cD];by_cases e:j=k
 ·subst e;rw[aV rfl,aV hjl,hj];show some (((l++[q]).lookup q.1).getD 0)=_;rw[List.lookup_append,hn];obtain⟨q1,q2⟩:=q;simp[List.lookup]
 ·rw[aN e];cases ek:ns[k]? with
  | none=>rfl
  | some n=>
   have ne:n≠q.1:=fun z=>e (by
    rw[z,<- hj] at ek
    exact((List.getElem?_inj hjl nd).mp ek.symm))
   show some (((l++[q]).lookup n).getD 0)=some ((l.lookup n).getD 0);rw[List.lookup_append]
   have:[q].lookup n=none:=Pj.mpr fun p hp=>by
    rw[dM.mp hp];simpa using ne
   rw[this,Option.or_none]
structure RbI(y:Yd)(cm:List Int)(i:Nat):Prop where
 n:(aZ y cm i).1.ns=y.ns
 p:(aZ y cm i).1.ps=y.ps
 o:(aZ y cm i).1.os=y.os
 t:(aZ y cm i).1.tot=y.tot
 a:(aZ y cm i).1.pa=y.pa
 l:(aZ y cm i).2.1.length=cm.length
 r:(aZ y cm i).2.2.length=i
theorem dJ(y:Yd)(cm:List Int):∀i,RbI y cm i
 | 0=>⟨rfl,rfl,rfl,rfl,rfl,rfl,rfl⟩
 | i+1=>by
  obtain⟨h1,h2,h3,h4,h5,h6,h7⟩:=dJ y cm i;refine⟨h1,h2,h3,h4,h5,?_,?_⟩
  ·show(tQ (aZ y cm i) i).2.1.length=_;unfold tQ;dsimp only;split
   ·exact h6
   ·rw[DW]; exact h6
  ·show((aZ y cm i).2.2++[_]).length=_;rw[cF,h7]; rfl
theorem oE{y:Yd}{cm:List Int}(YO:fK y):∀{i:Nat},i<=y.ns.length->fK (aZ y cm i).1
 | 0,_=>YO
 | i+1,h=>Xf (oE YO (zL h)) (by rw[(dJ y cm i).n]; omega)
theorem Gm{H:Hp}{ns:List Str}{vs:List V}(h:aj H (ns.map fun _=>PyData.int 0) vs):vs=(ql ns []).map V.int:=by
 have e:(ns.map fun _=>PyData.int 0)=(ql ns []).map .int:=by unfold ql; rw[uv]; rfl
 rw[e] at h;exact cX h
theorem rC(cs:List (Str×Int)):bG (cs.map UL)=true:=aW.mpr fun d hd=>by obtain⟨x,_,rfl⟩:=d9.mp hd; rfl
theorem Ut{cs:List (Str×Int)}{i:Nat}{q:Str×Int}(nn:(cs.map (·.1)).Nodup)(h:cs[i]?=some q):q.1∉(cs.take i).map (·.1):=fun z=>by
 have hi:=(iW.mp h).1;have hq:=(iW.mp h).2;rw[<- List.take_append_drop i cs,gk,qO] at nn;refine nn.2.2 _ z q.1 ?_ rfl;rw[G8 hi,hq];exact eX ..
def Ws(C:Addr):Sp:=fun vs H Q _=>∃(a:Ya)(y:Yd)(l:Addr)(us:List V)(cs:List (Str×Int)),vs=[.ref a.p,.ref l]/\bD C H a y/\fK y/\H l=some (.lst us)/\aj H (cs.map UL) us/\(cs.map (·.1)).Nodup/\(∀q∈cs,q.1∈y.ns)/\y.pa.length<500/\l∉a.own /\
 ∀p m xs H',H m=none->H p=none->p≠m->bD C H' { a with uV:=a.uV++[m] } (CV y cs)->H' p=some (.lst xs)->aj H' ((yJ y cs).map sy) xs->Fr [a.ds,a.dt,a.lp] H H'->Q (.ref p) H'
theorem pK:aX ["self","comes","coming","name","come","rows","row","onward"] ["self","comes"] (aG lH):=(by walk_at "c")
theorem yg{C:Addr}(F:i_ K "beat" "Yard.beat" lH f fd)(B:Bi mg)(Z:ZY K C)(aQ:Df P w K mg base k C "check_names" AU (za C))(gK:Df P w K mg base k C "post_beat" ["self","name","come"] (Z7 C)):bH P w K mg base ig (k+1) f fd ["self","comes"] (Ws C):=by
 refine F.ok pK (hbody:=(0:))
 obtain⟨a,y,l,us,cs,rfl,YA,YO,hl,au,nn,nin,pn,lo',q⟩:=h;have ND:=pK.nd;refine⟨_,(aq (cT (pm aQ hr (pv 0) (ao (iz (nt:=2) (N':=["name","come"]) (js:=[]) rfl (bV (K:=K) rfl (pv 1)) pF.of (fun fp s' H'=>(bQ (K:=K) (n:=2) rfl rfl (aD (aFN ["name","come"] 0) (aD (aFN ["name","come"] 1) bO)))) (fun fp s' H'=>gH) (fun fp s' H'=>(pv 0))) ak))) (aq (Pu (i:=2) ND rfl (by walk_at "o") (nt:=1) (N':=["name"]) (js:=[]) rfl (bV (K:=K) rfl (cH (K:=K) rfl (pv 0))) qC.of (fun fp s' H'=>(aFN ["name"] 0)) (fun fp s' H'=>(pv 0)) (fun fp s' H'=>aA)) (aq (iQ PassesOwn.never rfl (bV (K:=K) rfl (pv 1)) (bQ (K:=K) (n:=2) rfl rfl (aD (aF (i:=3)) (aD (aF (i:=4)) bO))) (aH (dF (pv 4) (nD (pv 2) (pv 3) (rR hr.units))))) (aq (aU (i:=5) (cG ak)) (aq (iQ PassesOwn.never rfl (bV (K:=K) rfl (cH (K:=K) rfl (pv 0))) (aF (i:=3)) (aq (aU (i:=6) (pm gK hr (pv 0) (ao (pv 3) (ao (bx (pL hr.units) (pv 2) (pv 3) (fun _ _=>rfl)) ak)))) (aq (aU (i:=7) (bx (pL hr.units) (cH (K:=K) rfl (pv 0)) (pv 3) (fun _ _=>rfl))) (aq (cM (bu uX (pv 7) iR (bf _)) (aH (S8 (Jq (Nat.add_le_add_left (by decide:1<=64) _) hr.units) (pv 2) (pv 7) (bx bh (pv 6) aA (fun _ _=>rfl)) XM (by intros; rfl))) bF) (aH (cT (gY (K:=K) rfl PySem.F.plainAttrs_list PySem.F.slot_list_append PySem.F.type_list_append fX (pv 5) (ao (pv 6) ak)))))))) (aq (cT (gY (K:=K) rfl PySem.F.plainAttrs_list PySem.F.slot_list_append PySem.F.type_list_append fX (cH (K:=K) rfl (pv 0)) (ao (pv 5) ak))) (aH (a_ (pt (oU) B.list fP (ao (pv 5) ak)))))))))),?_⟩
 ext;have lu:=au.length;rw[bZ] at lu;have l5:=YO.n5
 have hcs:cs.length<=5:=by
  have:(cs.map (·.1)).length<=y.ns.length:=List.Nodup.length_le_of_subset nn fun z hz=>by
   obtain⟨q',hq',rfl⟩:=d9.mp hz;exact nin q' hq'
  rw[bZ] at this;omega
 refine Me.of (m:="check_names") (R:=fun p=>_) YA (fun _ _ _ _ _ _ _=>rfl) ?_;refine lW ((cs.map (·.1)).map .str) (fun i=>[some (.str (cs.getD i ("",0)).1),some (.int (cs.getD i ("",0)).2)]) (fun _=>rfl) (fun R hR=>by ext; exact hR) hl (by simp; omega) ∅ (vH _) ?_ ?_
 ·intro i x d H' hx hd s';have hi:i<cs.length:=by rw[<- lu]; exact(iW.mp hx).1
  have et:cs[i]?=some cs[i]:=cN hi;obtain⟨d',hd',ad⟩:=(au.mono s').get hx;rw[cD,et] at hd';cases hd';obtain⟨b,rfl,eb⟩:=Q3 ad;rw[cD,cD,et] at hd;cases hd;rw[iI,et];refine⟨fun R hR=>⟨b,_,rfl,dU.of eb,rfl,?_⟩,fun R hR=>?_⟩
  ·exact hR
  ·ext;exact hR _ _ (aJ.refl _) (At.str _)
 intro acc us1 H1 f1 s1 e1 a1;have:=oA a1;subst this;refine⟨a,y,acc,cs.map (·.1),rfl,YA.mono s1,e1,nn,by rw[bZ]; omega,fun n hn=>by obtain⟨q',hq',rfl⟩:=d9.mp hn; exact nin q' hq',fun H2 s2=>?_⟩
 have s12:=s1.trans s2;have YB:=YA.mono s12;obtain⟨dx,ob⟩:=YA.ob;have ob2:=s12 _ _ ob;refine vg y.ns (y.ns.map fun _=>PyData.int 0) (fun i=>[some ((y.ns.map V.str).getD i .non)]) (fun _=>rfl) (a:=a.lo) (fun R hR=>by ext; exact⟨_,_,_,_,_,rfl,ob2,Z.cl,Z.n2,nU ..,hR⟩) YB.lo YO.nn (by simp) (by simp) (by simp; omega) (aW.mpr fun d hd=>by obtain⟨z,_,rfl⟩:=d9.mp hd; rfl) ?_ ?_
 ·intro i x nm d H' hx hn hd s';have ex:(y.ns.map V.str).getD i .non=x:=by rw[iI,hx]; rfl
  rw[ex];rw[cD,hn] at hx;cases hx;rw[cD,hn] at hd;cases hd;refine⟨fun R hR=>by ext; exact hR,fun R hR=>by ext; exact hR,fun R hR=>?_⟩
  ext;exact hR _ _ (aJ.refl _) (At.int _)
 intro dc vz H3 Y0 s3 edc az lz;have:=Gm az;subst this;have Jk:=s12.trans s3;rw[vC];ext
 have Y9:H dc=none:=by
  cases q':H dc with
  | none=>rfl
  | some o=>rw[s12 _ _ q'] at Y0; cases Y0
 have ldc:l≠dc:=fun z=>by rw[<- z,hl] at Y9; cases Y9
 refine LK.of (Jk _ _ hl) (fun i σ H'=>∃o3 o4,σ=[some (.ref a.p),some (.ref l),some (.ref dc),o3,o4,none,none,none]/\H' dc=some (.dK (zK y.ns ((ql y.ns (cs.take i)).map V.int)))/\Fr [dc] H3 H') ⟨_,_,rfl,edc,Fr.refl _ _⟩ (fun i σ H' _ ⟨_,_,_,_,fr⟩=>fr _ _ (Jk _ _ hl) (by simpa using ldc)) ?_ ?_
 ·rintro i x σ H4 hx ⟨o3,o4,rfl,e4,YZ⟩;have hi:i<cs.length:=by rw[<- lu]; exact(iW.mp hx).1
  have et:cs[i]?=some cs[i]:=cN hi;have k4:dW H3 H4:=YZ.kp fun b hb xs z=>by rw[dM.mp hb,edc] at z; cases z
  have au4:=aj.kp (Jk.kp.trans k4) _ _ (rC _) au;obtain⟨d',hd',ad⟩:=au4.get hx;rw[cD,et] at hd';cases hd';obtain⟨b,rfl,eb⟩:=Q3 ad;refine⟨b,_,rfl,dU.of eb,rfl,?_⟩;ext;obtain⟨j,hj⟩:=Er (nin _ (dN et));refine⟨dc,_,rfl,qz.z e4 YO.nn hj (by rw[bZ,vh]) ∅,_,_,rfl,?_,YZ.trans (Fr.put (by simp))⟩
  rw[aB,b8 et,Q8 YO.nn hj (Ut nn et),wz]
 rintro σ H4 ⟨o3,o4,rfl,e4,YZ⟩;rw[lu,mV] at e4;have lcm:(ql y.ns cs).length=y.ns.length:=vh ..;have eR:yJ y cs=(aZ y (ql y.ns cs) y.ns.length).2.2:=rfl;have eY:CV y cs={ (aZ y (ql y.ns cs) y.ns.length).1 with pa:=y.pa++[yJ y cs] }:=rfl
 generalize ql y.ns cs=cm at e4 lcm eR eY;ext;refine⟨⋯,fun m H5 fm s5 em=>?_⟩
 have Vy:aJ H H4:=fun b o z=>YZ _ _ (Jk _ _ z) (by simp; intro e; rw[e,Y9] at z; cases z)
 have s05:=Vy.trans s5
 have fm0:H m=none:=by
  cases q':H m with
  | none=>rfl
  | some o=>rw[Vy _ _ q'] at fm; cases fm
 have mdc:m≠dc:=fun z=>by rw[z,e4] at fm; cases fm
 have Y5:=YA.mono s05
 have Fg:∀b∈a.own,b≠dc/\b≠m:=fun b hb=>by
  obtain⟨o,e,_⟩:=YA.al b hb;exact⟨fun z=>(by rw[z,Y9] at e; cases e),fun z=>(by rw[z,fm0] at e; cases e)⟩
 rw[vC];ext;obtain⟨dx5,ob5⟩:=Y5.ob;refine⟨_,_,_,_,_,rfl,ob5,Z.cl,Z.n2,nU ..,?_⟩;have nsl:(y.ns.map V.str).length=y.ns.length:=bZ ..;refine LK.of Y5.lo (fun i σ H'=>∃o3 o4 o6 o7 xs,σ=[some (.ref a.p),some (.ref l),some (.ref dc),o3,o4,some (.ref m),o6,o7]/\bD C H' a (aZ y cm i).1/\H' dc=some (.dK (zK y.ns ((aZ y cm i).2.1.map V.int)))/\H' m=some (.lst xs)/\aj H' ((aZ y cm i).2.2.map sy) xs/\Fr [a.ds,a.dt,dc,m] H5 H') ⟨_,_,_,_,[],rfl,Y5,s5 _ _ e4,em,aj.nil,Fr.refl _ _⟩ (fun i σ H' _ ⟨_,_,_,_,_,_,Y',_⟩=>by have:=Y'.lo; rw[(dJ y cm i).n] at this; exact this) ?_ ?_
 ·rintro i x σ H6 hx ⟨o3,o4,o6,o7,xs,rfl,Y6,e6,em6,ax,Uu⟩;rw[cD] at hx;cases hn:y.ns[i]? with
  | none=>rw[hn] at hx; cases hx
  | some n=>
  rw[hn] at hx;cases hx;have hi:i<y.ns.length:=(iW.mp hn).1;obtain⟨r1,r2,r3,r4,r5,r6,r7⟩:=dJ y cm i;have Zd:fK (aZ y cm i).1:=oE YO (lK hi);have abd:aZ y cm (i+1)=tQ (aZ y cm i) i:=rfl;rw[abd];generalize aZ y cm i=z at Y6 e6 ax Zd r1 r2 r3 r4 r5 r6 r7 ⊢;obtain⟨zy,zc,zr⟩:=z;dsimp only at r1 r2 r3 r4 r5 r6 r7 Y6 e6 ax Zd;have ec:zc[i]?=some (zc.getD i 0):=by rw[iI,cN (by omega:i<zc.length)]; rfl
  ext;refine Me.of (m:="post_beat") (R:=fun p=>_) Y6 (fun _ _ _ _ _ _ _=>rfl) ?_;refine⟨dc,.int (zc.getD i 0),rfl,iV.z e6 YO.nn hn (by rw[bZ]; omega) (by rw[cD,ec]; rfl),?_⟩
  refine⟨a,zy,i,n,zc.getD i 0,rfl,Y6,Zd,by rw[r1]; exact hn,fun v H7 Y7 V0 av=>?_⟩
  have YS:a.ds∈a.own/\a.dt∈a.own:=by unfold Ya.own; simp
  have dcO:dc∉[a.ds,a.dt]:=by simp; exact⟨Ne.symm (Fg _ YS.1).1,Ne.symm (Fg _ YS.2).1⟩
  have mO:m∉[a.ds,a.dt]:=by simp; exact⟨Ne.symm (Fg _ YS.1).2,Ne.symm (Fg _ YS.2).2⟩
  have e7:=V0 _ _ e6 dcO;have em7:=V0 _ _ em6 mO;have k67:dW H6 H7:=Y6.kp (V0.sub fun b hb=>.inl (by simp at hb; rcases hb with rfl | rfl; exact YS.1; exact YS.2))
  have ax7:=aj.kp k67 _ _ (eU _) ax;have lxs:=ax.length;rw[bZ,r7] at lxs;have l2:=YO.lo;have eo:y.os[i]?=some y.os[i]:=cN ∅
  have eo':zy.os.getD i none=y.os[i]:=by rw[r3,iI,eo]; rfl
  have dn7:H7 a.dn=some (.dK (zK y.ns (y.os.map d7))):=by
   have:=Y7.dn;rw[show(Ng zy i (zc.getD i 0)).ns=zy.ns from rfl,show(Ng zy i (zc.getD i 0)).os=zy.os from rfl,r1,r3] at this;exact this
  have helper:∀(H8:Hp) (cn:List Int),H8 dc=some (.dK (zK y.ns (cn.map V.int)))->Fr [dc] H7 H8->H8 m=some (.lst xs)/\(bD C (upd H8 m (.lst (xs++[v]))) a (Ng zy i (zc.getD i 0))/\upd H8 m (.lst (xs++[v])) dc=some (.dK (zK y.ns (cn.map V.int)))/\upd H8 m (.lst (xs++[v])) m=some (.lst (xs++[v]))/\aj (upd H8 m (.lst (xs++[v]))) ((zr++[sV zy i (zc.getD i 0)]).map sy) (xs++[v])/\Fr [a.ds,a.dt,dc,m] H5 (upd H8 m (.lst (xs++[v])))):=fun H8 cn e8 YX=>by
   have V3:=YX _ _ em7 (by simpa using mdc)
   have k8:dW H7 H8:=YX.kp fun b hb xs z=>by rw[dM.mp hb,e7] at z; cases z
   have k9:dW H8 (upd H8 m (.lst (xs++[v]))):=dW.putL V3;have k79:=k8.trans k9;refine⟨V3,Y7.keep k79 (fun b hb o e=>by rw[aC (Fg b hb).2]; exact YX _ _ e (by simpa using(Fg b hb).1)),by rw[aC mdc.symm]; exact e8,aB,?_,?_⟩
   ·rw[gk];exact(aj.kp k79 _ _ (eU _) ax7).snoc (At.kp k79 _ _ (rw_noL _) av)
   ·exact Uu.trans ((V0.sub fun b hb=>.inl (by simp at hb ⊢; rcases hb with h | h <;> simp[h])).trans ((YX.sub fun b hb=>.inl (by rw[dM.mp hb]; simp)).trans (Fr.put (by simp))))
  have stp:tQ (zy,zc,zr) i=(Ng zy i (zc.getD i 0),match y.os[i] with
   | none=>zc
   | some o=>zc.set (y.ns.idxOf o) (zc.getD (y.ns.idxOf o) 0+(sV zy i (zc.getD i 0)).d),zr++[sV zy i (zc.getD i 0)]):=by
   unfold tQ;dsimp only;rw[eo',r1]
  rw[stp];obtain⟨dx7,ob7⟩:=Y7.ob;have dgo:=iV.z dn7 YO.nn hn (by rw[bZ]; omega) (v:=d7 y.os[i]) (by rw[cD,eo]; rfl)
  refine⟨_,_,_,_,_,rfl,ob7,Z.cl,Z.n4,qg ..,_,_,rfl,dgo,trivial,?_⟩;cases how:y.os[i] with
  | none=>
   rw[aN (by simp[d7])]
   obtain⟨V3,h8⟩:=helper H7 zc e7 (Fr.refl _ _);exact⟨.inl ⟨rfl,_,cz.of V3⟩,m,xs,v,rfl,rfl,V3,aR ∅,_,_,_,_,_,rfl,h8⟩
  | some o=>
   rw[aV (by simp[d7])]
   have oin:o∈y.ns:=Ea (YO.og i o (by rw[eo,how]))
   have hj:y.ns.idxOf o<y.ns.length:=JB oin;have ej:y.ns[y.ns.idxOf o]?=some o:=by rw[cN hj,List.getElem_idxOf hj]
   have ecj:zc[y.ns.idxOf o]?=some (zc.getD (y.ns.idxOf o) 0):=by rw[iI,cN (by omega:y.ns.idxOf o<zc.length)]; rfl
   obtain⟨b,ys,rfl,hb1,hb2⟩:=bz av;obtain⟨x0,_,rfl,b0,hb2⟩:=aj.aP hb2;obtain⟨x1,_,rfl,b1,hb2⟩:=aj.aP hb2;obtain⟨x2,_,rfl,b2,hb2⟩:=aj.aP hb2;have ex2:x2=.int (sV zy i (zc.getD i 0)).d:=by unfold At at b2; exact b2
   subst ex2;refine⟨dc,.int (zc.getD (y.ns.idxOf o) 0),rfl,iV.z e7 YO.nn ej (by rw[bZ]; omega) (by rw[cD,ecj]; rfl),Ix.tup hb1 (aY (j:=2) rfl) ⟨_,_,rfl,rfl,_,qz.z e7 YO.nn ej (by rw[bZ]; omega) ∅,?_⟩⟩
   obtain⟨V3,h8⟩:=helper (upd H7 dc (.dK (zK y.ns ((zc.map V.int).set (y.ns.idxOf o) (.int (zc.getD (y.ns.idxOf o) 0+(sV zy i (zc.getD i 0)).d)))))) (zc.set (y.ns.idxOf o) (zc.getD (y.ns.idxOf o) 0+(sV zy i (zc.getD i 0)).d)) (by rw[aB,wz]) (Fr.put (by simp))
   exact⟨.inl ⟨rfl,_,cz.of V3⟩,m,xs,_,rfl,rfl,V3,aR ∅,_,_,_,_,_,rfl,h8⟩
 ·rintro σ H6 ⟨o3,o4,o6,o7,xs,rfl,Y6,e6,em6,ax,Uu⟩;rw[nsl] at Y6 e6 ax;rw[<- eR] at ax;ext;have RI:=dJ y cm y.ns.length;have pl:=Y6.pa.length;rw[RI.a] at pl;obtain⟨dx6,ob6⟩:=Y6.ob;have lpO:a.lp∈a.own:=by unfold Ya.own; simp
  refine⟨_,_,_,_,_,rfl,ob6,Z.cl,Z.n7,J_ ..,.inl ⟨rfl,_,cz.of Y6.lp⟩,a.lp,_,_,rfl,rfl,Y6.lp,aR (by rw[bZ]; omega),?_⟩
  have lm:m≠a.lp:=Ne.symm (Fg _ lpO).2;have k7:dW H6 (upd H6 a.lp (.lst (a.uV.map V.ref++[.ref m]))):=dW.putL Y6.lp;have f7:Fr [a.lp] H6 (upd H6 a.lp (.lst (a.uV.map V.ref++[.ref m]))):=Fr.put (by simp)
  have e7:upd H6 a.lp (.lst (a.uV.map V.ref++[.ref m])) a.lp=some (.lst (a.uV.map V.ref++[.ref m])):=aB;generalize upd H6 a.lp (.lst (a.uV.map V.ref++[.ref m]))=H7 at k7 f7 e7 ⊢;have em7:=f7 _ _ em6 (by simpa using lm)
  refine⟨m,xs,rfl,em7,fun p fp=>?_⟩;have s8:=aM fp (HO.lst xs);have e8:upd H7 p (.lst xs) p=some (.lst xs):=aB;generalize upd H7 p (.lst xs)=H8 at s8 e8 ⊢;have k68:dW H6 H8:=k7.trans s8.kp
  have YX:Fr [a.ds,a.dt,a.lp] H H8:=fun b o z nb=>by
   simp only[bK,fD,or_false,not_or] at nb;have h5:=s05 _ _ z
   have h6:=Uu _ _ h5 (by
    simp only[bK,fD,or_false,not_or]
    exact⟨nb.1,nb.2.1,fun e=>(by rw[e,Y9] at z; cases z),fun e=>(by rw[e,fm0] at z; cases z)⟩)
   exact s8 _ _ (f7 _ _ h6 (by simpa using nb.2.2))
  have fp0:H p=none:=by
   cases q':H p with
   | none=>rfl
   | some o=>
    have hb:H5 p=some o:=s05 _ _ q';by_cases c1:p∈[a.ds,a.dt,a.lp]
    ·exfalso;simp only[bK,fD,or_false] at c1;rcases c1 with h | h | h
     ·obtain⟨o',e',_⟩:=Y6.al a.ds (by unfold Ya.own; simp)
      rw[h,f7 _ _ e' (by simp; intro z; have:=YA.nd; unfold Ya.own at this; have:=(qO.mp this).1; simp[z] at this)] at fp
      cases fp
     ·obtain⟨o',e',_⟩:=Y6.al a.dt (by unfold Ya.own; simp)
      rw[h,f7 _ _ e' (by simp; intro z; have:=YA.nd; unfold Ya.own at this; have:=(qO.mp this).1; simp[z] at this)] at fp
      cases fp
     ·rw[h,e7] at fp; cases fp
    ·exfalso;simp only[bK,fD,or_false,not_or] at c1
     have h6:=Uu _ _ hb (by
      simp only[bK,fD,or_false,not_or]
      exact⟨c1.1,c1.2.1,fun e=>(by rw[e,Y9] at q'; cases q'),fun e=>(by rw[e,fm0] at q'; cases q')⟩)
     rw[f7 _ _ h6 (by simpa using c1.2.2)] at fp
     cases fp
  have pm:p≠m:=fun z=>by rw[z,em7] at fp; cases fp
  have ax8:=aj.kp k68 _ _ (eU _) ax;have nd:=YA.nd;unfold Ya.own at nd;obtain⟨Lx,nd2,YM⟩:=qO.mp nd;have afv:∀b∈a.own,b≠a.lp->∀o,H6 b=some o->H8 b=some o:=fun b hb n o e=>s8 _ _ (f7 _ _ e (by simpa using n))
  have YL:a.p≠a.lp/\a.lo≠a.lp/\a.dp≠a.lp/\a.dn≠a.lp/\a.ds≠a.lp/\a.dt≠a.lp:=by
   simp only[jK,bK,fD,not_or,or_false] at Lx;exact⟨Lx.1.2.2.2.2.2,Lx.2.1.2.2.2.2,Lx.2.2.1.2.2.2,Lx.2.2.2.1.2.2,Lx.2.2.2.2.1.2,Lx.2.2.2.2.2.1⟩
  have kO:∀{b:Addr}{o:HO},H6 b=some o->b≠a.lp->H8 b=some o:=fun {b o} e n=>s8 _ _ (f7 _ _ e (by simpa using n))
  obtain⟨v3,c3,g3⟩:=Y6.dp;obtain⟨v5,c5,g5⟩:=Y6.ds;obtain⟨v6,c6,g6⟩:=Y6.dt;refine q p m xs H8 fm0 fp0 pm ?_ e8 ax8 YX;rw[eY];refine⟨⟨dx6,kO ob6 YL.1⟩,kO Y6.lo YL.2.1,⟨v3,kO c3 YL.2.2.1,aj.kp k68 _ _ (fO _) g3⟩,kO Y6.dn YL.2.2.2.1,⟨v5,kO c5 YL.2.2.2.2.1,aj.kp k68 _ _ (fM _) g5⟩,⟨v6,kO c6 YL.2.2.2.2.2,aj.kp k68 _ _ (jM _) g6⟩,?_,?_,?_⟩
  ·show H8 a.lp=some (.lst ((a.uV++[m]).map V.ref));rw[gk];exact s8 _ _ e7
  ·show cg H8 (a.uV++[m]) (y.pa++[yJ y cs]);have P6:=Y6.pa;rw[RI.a] at P6;exact cg.snoc (P6.keep k68 fun b hb o e=>kO e (fun z=>YM a.lp (by simp) b hb z.symm)) (s8 _ _ em7) ax8
  ·show([a.p,a.lo,a.dp,a.dn,a.ds,a.dt,a.lp]++(a.uV++[m])).Nodup;rw[<- G5,qO];exact⟨nd,by simp,fun u hu v hv e=>by rw[dM.mp hv] at e; exact(Fg u hu).2 e⟩
theorem mH:aX AV AV (aG jh):=(by walk_at "c")
theorem uG{C:Addr}(F:i_ K "counts" "Yard.counts" jh f fd)(Z:ZY K C)(aQ:Df P w K mg base k C "check_names" AU (za C)):bH P w K mg base ig (k+1) f fd AV (vJ C gT):=by
 refine F.ok mH (hbody:=(0:))
 obtain⟨a,y,i,n,d,rfl,YA,YO,hn,hd,q⟩:=h;have ND:=mH.nd;refine⟨_,(aq (cT (pm aQ hr (pv 0) (ao (cG (ao (pv 1) ak)) ak))) (aH (a_ (bx (pL hr.units) (cH (K:=K) rfl (pv 0)) (pv 1) (fun _ _=>rfl))))),?_⟩;ext;refine Me.of (m:="check_names") (R:=fun p=>_) YA (fun _ _ _ _ _ _ _=>rfl) ?_;refine⟨⋯,fun p H1 f1 s1 e1=>?_⟩
 refine⟨a,y,p,[n],rfl,YA.mono s1,e1,by simp,by simp,by intro m hm; rw[dM.mp hm]; exact dN hn,fun H2 s2=>?_⟩
 have YB:=YA.mono (s1.trans s2);obtain⟨us,ed,av⟩:=YB.dt;obtain⟨v,ev,aw⟩:=av.nth hd;have lv:=av.length;have l1:=YO.lt;rw[bZ] at lv;obtain⟨dx,ob⟩:=YB.ob;exact⟨_,_,_,_,_,rfl,ob,Z.cl,Z.n6,qe ..,_,v,rfl,iV.z ed YO.nn hn ∅ ev,q _ _ (s1.trans s2) aw⟩
theorem Ya.nds{a:Ya}(nd:a.own.Nodup):(a.dp≠a.p/\a.dn≠a.p)/\(∀b∈a.own,b≠a.dp->b∉[a.dp]):=⟨by
  unfold Ya.own at nd;have:=(qO.mp nd).1;simp only[jK,bK,fD,not_or,or_false] at this
  exact⟨Ne.symm this.1.2.1,Ne.symm this.1.2.2.1⟩,fun b _ h=>by simpa using h⟩
theorem bD.ac9{C:Addr}{H H':Hp}{a:Ya}{y:Yd}{os:List (Option Str)}(A:bD C H a y)(e:H' a.dn=some (.dK (zK y.ns (os.map d7))))(f:Fr [a.dn] H H')(m:dW H H'):bD C H' a { y with os:=os }:=by
 obtain⟨⟨dx,h1⟩,h2,⟨v3,h3,g3⟩,h4,⟨v5,h5,g5⟩,⟨v6,h6,g6⟩,h7,h8,h9⟩:=A;have nd:=h9;unfold Ya.own at nd;obtain⟨Lx,nd2,YM⟩:=qO.mp nd;simp only[jK,bK,fD,not_or,or_false] at Lx;obtain⟨⟨n12,n13,n14,n15,n16,n17⟩,⟨n23,n24,n25,n26,n27⟩,⟨n34,n35,n36,n37⟩,⟨n45,n46,n47⟩,⟨n56,n57⟩,n67,_⟩:=Lx;have kk:∀{b:Addr}{o:HO},H b=some o->b≠a.dn->H' b=some o:=fun {b o} z n=>f b o z (by simpa using n)
 exact⟨⟨dx,kk h1 n14⟩,kk h2 n24,⟨v3,kk h3 n34,aj.kp m _ _ (fO _) g3⟩,e,⟨v5,kk h5 (Ne.symm n45),aj.kp m _ _ (fM _) g5⟩,⟨v6,kk h6 (Ne.symm n46),aj.kp m _ _ (jM _) g6⟩,kk h7 (Ne.symm n47),h8.keep m fun b hb o z=>kk z (Ne.symm (YM a.dn (by simp) b hb)),h9⟩
theorem La.of{H:Hp}{l b:Addr}{xs zs:List V}{Q:VK}(h1:H l=some (.lst xs))(h2:H b=some (.lst zs))(hn:xs.length+zs.length<=1000)(q:∀p H',H p=none->aJ H H'->H' p=some (.lst (xs++zs))->Q (.ref p) H'):La (.ref l) (.ref b) H Q:=
 ⟨l,b,xs,zs,rfl,rfl,h1,h2,lK (aR hn),fun p fp=>q p _ fp (aM fp _) aB⟩
def Vs(C CB:Addr):Sp:=fun vs H Q E=>∃(a:Ya)(y:Yd)(i:Nat)(n:Str)(o:Option Str),vs=[.ref a.p,.str n,d7 o]/\bD C H a y/\fK y/\y.ns[i]?=some n/\((∀z,o=some z->z∈y.ns.drop (i+1))->∀H',bD C H' a { y with os:=y.os.set i o }->Fr [a.dn] H H'->Q .non H')/\(∀z,o=some z->z∉y.ns.drop (i+1)->∀H',aJ H H'->E (.ref CB) none H')
theorem pJ:aX AW AW (aG lG):=(by walk_at "c")
theorem yf{C bB:Addr}(F:i_ K "lead" "Yard.lead" lG f fd)(B:Bi mg)(Z:ZY K C)(aQ:Df P w K mg base k C "check_names" AU (za C))(dz:Rt P w K mg base k "check_onward" AQ (Je bB)):bH P w K mg base (mz P w) (k+1) f fd AW (Vs C bB):=by
 refine F.okE pJ (hbody:=fun cdv A outer s H vs Q E Nh hr h=>?_)
 obtain⟨a,y,i,n,o,rfl,YA,YO,hn,q,qE⟩:=h;have ND:=pJ.nd;refine⟨_,(aq (cT (pm aQ hr (pv 0) (ao (cG (ao (pv 1) ak)) ak))) (aq (cT (pfe dz hr (ao (pv 2) (ao (cW uR (cH (K:=K) rfl (pv 0)) (dG (aO bA (gY (K:=K) rfl PySem.F.plainAttrs_list PySem.F.slot_list_index PySem.F.type_list_index wU (cH (K:=K) rfl (pv 0)) (ao (pv 1) ak)) aA)) eZ) ak)))) (aH (dF (pv 2) (nD (cH (K:=K) rfl (pv 0)) (pv 1) (rR hr.units)))))),?_⟩;ext;refine Me.of (m:="check_names") (R:=fun p=>_) YA (fun _ _ _ _ _ _ _=>rfl) ?_;refine⟨⋯,fun p H1 f1 s1 e1=>?_⟩
 refine⟨a,y,p,[n],rfl,YA.mono s1,e1,by simp,by simp,by intro m hm; rw[dM.mp hm]; exact dN hn,fun H2 s2=>?_⟩
 have s12:=s1.trans s2;have YB:=YA.mono s12;have l1:=YO.lo;have l5:=YO.n5;have hi:i<y.ns.length:=(iW.mp hn).1;obtain⟨dx,ob⟩:=YB.ob;refine⟨_,_,_,_,_,rfl,ob,Z.cl,Z.n2,nU ..,_,_,_,_,_,rfl,ob,Z.cl,Z.n2,nU ..,.inl ⟨rfl,_,cz.of YB.lo⟩,?_⟩;refine⟨_,y.ns,n,i,rfl,YB.lo,rfl,∅,YO.nn,hn,?_⟩
 refine⟨_,_,rfl,rfl,_,_,rfl,cz.of YB.lo,fun p3 f3=>?_⟩;rw[lA ∅,show((i:Int)+1).toNat=i+1 by omega,<- zq]
 have s3:=aM f3 (HO.lst ((y.ns.drop (i+1)).map V.str));refine⟨o,p3,y.ns.drop (i+1),rfl,aB,fun ho H4 s4=>?_,fun z hz hn' H4 s4 H5 s5=>qE z hz hn' H5 (s12.trans (s3.trans (s5 s4)))⟩;have s24:=s3.trans s4;have R9:=s12.trans s24;refine⟨_,_,_,_,_,rfl,s24 _ _ ob,Z.cl,Z.n4,qg ..,_,_,rfl,qz.z (s24 _ _ YB.dn) YO.nn hn (by rw[bZ]; omega) ∅,?_⟩
 have k7:dW H4 (upd H4 a.dn (.dK (zK y.ns ((y.os.map d7).set i (d7 o))))):=dW.putD (s24 _ _ YB.dn);have f7:Fr [a.dn] H4 (upd H4 a.dn (.dK (zK y.ns ((y.os.map d7).set i (d7 o))))):=Fr.put (by simp)
 exact q ho _ (YA.ac9 (os:=y.os.set i o) (by rw[aB,wz]) ((R9.fr _).trans f7) (R9.kp.trans k7)) ((R9.fr _).trans f7)
theorem Oc{H H':Hp}{a:Addr}{n:Nat}(t:Tp H a n)(s:SX a H H'):dW H H':=fun c xs z=>s.get (t.neT z) z
theorem sxF{a p:Addr}{H H':Hp}(s:SX a H H')(pa:p≠a)(h:H' p=none):H p=none:=by
 cases q:H p with
 | none=>rfl
 | some o=>rw[s.get pa q] at h; cases h
theorem N_{zs:List (List Nat)}(h:zs.Nodup):(zs.map tx).Nodup:=by
 unfold List.Nodup;rw[List.pairwise_map];exact h.imp fun h e=>h (Wl e)
structure CmG(ns:List Str)(cs:List (Str×Int)):Prop where
 nd:(cs.map (·.1)).Nodup
 ni:∀c∈cs,c.1∈ns
 l:cs.length<=5
 b:∀c∈cs,0<=c.2/\c.2<=1000000000000
def Z9:Sp:=fun vs H Q _=>∃(a:Addr)(n:Nat)(q:Addr)(ns:List Str),vs=[.ref a,.ref q]/\Tp H a n/\n<=10000000/\q≠a/\H q=some (.lst (ns.map V.str))/\ns.Nodup/\ns.length<=5/\∀p us cs H',H p=none->p≠a->H' p=some (.lst us)->aj H' (List.map UL cs) us->CmG ns cs->Tp H' a (n+40)->SX a H H'->Q (.ref p) H'
theorem vQ:aX ["_law_tape_here","_law_names_here","_law_great","_law_comes_here","_law_name","_law_come"] AX (aG sr):=(by walk_at "c")
theorem aj.ins{H:Hp}{d:PyData}{v:V}(h:At H d v):∀(i:Nat){ds:List PyData}{vs:List V},aj H ds vs->aj H (ds.take i++d::ds.drop i) (vs.take i++v::vs.drop i)
 | 0,ds,vs,a=>by simpa using aj.cons h a
 | i+1,[],vs,a=>by cases aj.gQ a; exact aj.cons h aj.nil
 | i+1,e::ds,vs,a=>by
  obtain⟨x,r,rfl,h1,h2⟩:=aj.aP a;exact aj.cons h1 (aj.ins h i h2)
theorem Hh(F:i_ K "_law_comes" "_law_comes" sr f fd)(B:Bi mg)(aK:Ct P w K mg base k "_law_draw" AL gC)(lC:Ct P w K mg base k "_law_units" AM qH):bH P w K mg base ig (k+1) f fd AX Z9:=by
 refine F.ok vQ (hbody:=(0:))
 obtain⟨a,n,qa,ns,rfl,tp,hn,qaa,eq',hnd,hl5,q⟩:=h;have ND:=vQ.nd;refine⟨_,(aq (Bo (i:=2) (j:=3) rfl ND rfl rfl ⋯ rfl rfl (ao (du iB (pf aK hr (ao (pv 0) (ao aA ak))) aA (bf _)) (ao (cG ak) ak)) (by rfl)) (aq (iQ PassesOwn.never rfl (bV (K:=K) rfl (pv 1)) (aF (i:=4)) (aH (cM (bu zQ (pf aK hr (ao (pv 0) (ao aA ak))) aA (bf _)) (aq (aU (i:=5) (eQ (dD (pv 2)) (pf lC hr (ao (pv 0) ak)) (pf aK hr (ao (pv 0) (ao aA ak))))) (aH (cT (gY (K:=K) rfl PySem.F.plainAttrs_list PySem.F.slot_list_insert PySem.F.type_list_insert Hk (pv 3) (ao (pf aK hr (ao (pv 0) (ao (aO bA (pb (cu (K:=K) rfl) B.len dq (ao (pv 3) ak)) aA) ak))) (ao (bw (ao (pv 4) (ao (pv 5) ak))) ak)))))) bF))) (aH (a_ (pv 3))))),?_⟩
 simp only[zb 5];ext;refine cL.of tp ∅ ⋯ ⋯ fun d H1 d0 d1 t1 x1=>?_
 ext;refine⟨⋯,fun p H2 f2 s2 e2=>?_⟩
 have pa:=t1.ne f2;have f0:H p=none:=sxF x1 pa f2;generalize decide (d=0)=gr;refine⟨_,_,rfl,?_⟩;rw[vC];ext;have eq2:=s2 _ _ (x1.get qaa eq');have pq:p≠qa:=fun z=>by rw[z,x1.get qaa eq'] at f2; cases f2
 refine LK.of eq2 (fun i σ H'=>∃(us:List V)(cs:List (Str×Int))(o4 o5:Option V),σ=[some (V.ref a),some (V.ref qa),some (V.bl gr),some (V.ref p),o4,o5]/\cs.length<=i/\us.length=cs.length/\(cs.map (·.1)).Nodup/\(∀c∈cs,c.1∈ns.take i/\0<=c.2/\c.2<=1000000000000)/\H' p=some (.lst us)/\aj H' (cs.map UL) us/\Tp H' a (n+1+6*i)/\SX a H H'/\H' qa=some (.lst (ns.map V.str)))
  ⟨[],[],_,_,rfl,bc _,rfl,by simp,by simp,e2,aj.nil,(t1.same s2).mono ∅,x1.trans (SX.of s2),eq2⟩ (fun i σ H' _ ⟨_,_,_,_,_,_,_,_,_,_,_,_,_,z⟩=>z) ?_ ?_
 ·rintro i x σ H3 hx ⟨us,cs,o4,o5,rfl,li,lu,nd,ni,e3,a3,t3,x3,eq3⟩;rw[cD] at hx;cases en:ns[i]? with
  | none=>rw[en] at hx; cases hx
  | some nm=>
  rw[en] at hx;cases hx;have hi:i<ns.length:=(iW.mp en).1
  have nin:∀c∈cs,c.1≠nm:=fun c hc e=>by
   have h1:=(ni c hc).1;rw[e] at h1;obtain⟨j,hj⟩:=Er h1;rw[List.getElem?_take] at hj;split at hj
   ·have:=qW hnd hj en;omega
   ·cases hj
  have tk:∀c∈cs,c.1∈ns.take (i+1)/\0<=c.2/\c.2<=1000000000000:=fun c hc=>⟨by rw[b8 en]; exact Es _ (ni c hc).1,(ni c hc).2⟩
  ext;refine cL.of t3 ∅ ⋯ ⋯ fun d4 H4 d40 d41 t4 x4=>?_
  have eq4:=x4.get qaa eq3;have e4:=x4.get pa e3;have a4:=aj.kp (Oc t3 x4) _ _ (rC _) a3;ext;refine dC (fun _=>?_) (fun _=>⟨us,cs,_,_,rfl,∅,lu,nd,tk,e4,a4,t4.mono ∅,x3.trans x4,eq4⟩)
  refine kJ.of (R:=fun σ H'=>∃c:Int,σ=[some (V.ref a),some (V.ref qa),some (V.bl gr),some (V.ref p),some (V.str nm),some (.int c)]/\(0<=c/\c<=1000000000000)/\Tp H' a (n+1+6*i+5)/\SX a H4 H') ?_ ?_
  ·rintro σ H5 ⟨c,rfl,hcb,t5,x5⟩;have e5:=x5.get pa e4;have eq5:=x5.get qaa eq4;have a5:=aj.kp (Oc t4 x5) _ _ (rC _) a4;ext;refine⟨.inl ⟨rfl,_,cz.of e5⟩,⟨p,us,rfl,.inl (cz.of e5),?_⟩⟩;refine⟨_,_,rfl,rfl,?_⟩;refine cL.of t5 ∅ ∅ ∅ fun d6 H6 d60 d61 t6 x6=>⟨⋯,fun p7 H7 f7 s7 e7=>?_⟩
   have e6:=x6.get pa e5;have e7':=s7 _ _ e6;refine⟨p,us,d6,d6.toNat,.ref p7,rfl,rfl,∅,e7',∅,∅,?_⟩
   have k8:dW H7 (upd H7 p (.lst (us.take d6.toNat++V.ref p7::us.drop d6.toNat))):=dW.putL e7';have k58:=(Oc t5 x6).trans (s7.kp.trans k8);have ap7:At (upd H7 p (.lst (us.take d6.toNat++V.ref p7::us.drop d6.toNat))) (UL (nm,c)) (.ref p7):=At.tup (k8 _ _ e7) (aj.cons (At.str _) (aj.cons (At.int _) aj.nil));refine⟨_,cs.take d6.toNat++(nm,c)::cs.drop d6.toNat,_,_,rfl,?_,?_,?_,?_,aB,?_,?_,?_,?_⟩
   ·simp only[cF,iJ,fC,uw]; omega
   ·simp only[cF,iJ,fC,uw]; omega
   ·rw[gk,jk,List.map_take,zq,qO];have tn:=List.take_append_drop d6.toNat (cs.map (·.1));rw[<- tn,qO] at nd;obtain⟨n1,n2,n3⟩:=nd;have nm1:nm∉cs.map (·.1):=fun z=>by obtain⟨c',hc',e⟩:=d9.mp z; exact nin c' hc' e
    refine⟨n1,jK.mpr ⟨fun z=>nm1 (Ea z),n2⟩,fun u hu v hv=>?_⟩;rcases bK.mp hv with h | h
    ·exact fun e=>nm1 (by have:=wy hu; rw[e,h] at this; exact this)
    ·exact n3 u hu v h
   ·intro c' hc';rcases gm.mp hc' with h | h
    ·exact tk c' (wy h)
    ·rcases bK.mp h with h | h
     ·rw[h,b8 en]; exact⟨iM _ (by simp),hcb⟩
     ·exact tk c' (Ea h)
   ·rw[gk,jk,List.map_take,zq];exact aj.ins ap7 _ (aj.kp k58 _ _ (rC _) a5)
   ·exact((t6.same s7).gB pa).mono ∅
   ·exact(x3.trans (x4.trans (x5.trans (x6.trans (SX.of s7))))).gB f0 pa
   ·rw[aC (Ne.symm pq)];exact s7 _ _ (x6.get qaa eq5)
  ·intro N hN;ext;refine dC (fun _=>⟨a,_,rfl,t4,∅,fun v H5 v0 v1 t5 x5=>hN _ _ ⟨v,rfl,∅,t5.mono ∅,x5⟩⟩) (fun _=>cL.of t4 ∅ ⋯ ⋯ fun v H5 v0 v1 t5 x5=>hN _ _ ⟨v,rfl,∅,t5.mono ∅,x5⟩)
 ·rintro σ H3 ⟨us,cs,o4,o5,rfl,li,lu,nd,ni,e3,a3,t3,x3,eq3⟩;ext;rw[bZ] at li ni t3;exact q p us cs H3 f0 pa e3 a3 ⟨nd,fun c hc=>wy (ni c hc).1,∅,fun c hc=>(ni c hc).2⟩ (t3.mono ∅) x3
theorem Yh{y:Yd}{cs:List (Str×Int)}(YO:fK y)(h:y.pa.length<500):fK (CV y cs):=by
 have R:=oE (cm:=ql y.ns cs) YO (bc _);have F:=dJ y (ql y.ns cs) y.ns.length;have e:CV y cs={ (aZ y (ql y.ns cs) y.ns.length).1 with pa:=y.pa++[yJ y cs] }:=rfl
 rw[e];have l:=F.r;refine { R with pn:=by show(y.pa++[yJ y cs]).length<=500; rw[cF]; simp; omega,pl:=fun r hr=>?_ }
 rcases gm.mp hr with z | z
 ·exact YO.pl r z
 ·rw[dM.mp z];have:=YO.n5;show(aZ y (ql y.ns cs) y.ns.length).2.2.length<=5;omega
theorem JS{H:Hp}{ds:List PyData}{v:V}(h:At H (.list ds) v):∃a xs,v=.ref a/\H a=some (.lst xs)/\aj H ds xs:=by unfold At at h; exact h
def SD:Nat->PyData->Prop
 | 0,_=>False
 | n+1,d=>(∃i,d=.int i)\/d=.none\/(∃t,d=.str t/\PyData.canLay0 (.str t)=true)\/(∃ds,d=.tuple ds/\ds.length<=1000/\∀e∈ds,SD n e)\/∃ds,d=.list ds/\ds.length<=1000/\∀e∈ds,SD n e
theorem SD.int{n:Nat}(i:Int):SD (n+1) (.int i):=.inl ⟨i,rfl⟩
theorem SD.none{n:Nat}:SD (n+1) .none:=.inr (.inl rfl)
theorem SD.str{n:Nat}{t:Str}(h:PyData.canLay0 (.str t)=true):SD (n+1) (.str t):=.inr (.inr (.inl ⟨t,rfl,h⟩))
theorem SD.tup{n:Nat}{ds:List PyData}(h:ds.length<=1000)(ha:∀e∈ds,SD n e):SD (n+1) (.tuple ds):=.inr (.inr (.inr (.inl ⟨ds,rfl,h,ha⟩)))
theorem SD.lst{n:Nat}{ds:List PyData}(h:ds.length<=1000)(ha:∀e∈ds,SD n e):SD (n+1) (.list ds):=.inr (.inr (.inr (.inr ⟨ds,rfl,h,ha⟩)))
theorem SD.ints{n:Nat}{l:List Int}(h:l.length<=1000):SD (n+2) (.tuple (l.map .int)):=SD.tup (by rw[bZ]; exact h) fun e he=>by obtain⟨i,_,rfl⟩:=d9.mp he; exact SD.int i
theorem SD.data:∀(n:Nat)(d:PyData),SD n d->PyData.hasDict d=false/\PyData.canLay0 d=true/\PyData.depth d<=n
 | 0,_,h=>h.elim
 | n+1,d,h=>by
  have all:∀ds:List PyData,(∀e∈ds,SD n e)->PyData.hasDictAll ds=false/\PyData.canLayAll0 ds=true/\PyData.depthAll ds<=n:=fun ds=>by
   induction ds with
   | nil=>exact fun _=>⟨rfl,rfl,eV _⟩
   | cons e r ih=>
    intro ha;obtain⟨h1,h2,h3⟩:=ih fun e he=>ha e (dX _ he);obtain⟨k1,k2,k3⟩:=SD.data n e (ha e eX);refine⟨?_,?_,?_⟩
    ·unfold PyData.hasDictAll; rw[k1,h1]; rfl
    ·unfold PyData.canLayAll0; rw[k2,h2]; rfl
    ·unfold PyData.depthAll; exact Nat.max_le.mpr ⟨k3,h3⟩
  rcases h with⟨i,rfl⟩ | rfl | ⟨t,rfl,hc⟩ | ⟨ds,rfl,hn,hds⟩ | ⟨ds,rfl,hn,hds⟩
  ·exact⟨rfl,rfl,eV _⟩
  ·exact⟨rfl,rfl,eV _⟩
  ·exact⟨rfl,hc,eV _⟩
  ·obtain⟨h1,h2,h3⟩:=all ds hds;exact⟨by unfold PyData.hasDict; exact h1,by unfold PyData.canLay0; exact h2,by unfold PyData.depth; omega⟩
  ·obtain⟨h1,h2,h3⟩:=all ds hds;exact⟨by unfold PyData.hasDict; exact h1,by unfold PyData.canLay0; exact h2,by unfold PyData.depth; omega⟩
def GD(n:Nat):Sp:=fun vs H Q _=>∃(v u:V)(d:PyData),vs=[v,u]/\At H d v/\At H d u/\SD n d/\n<=60/\∀H',aJ H H'->Q (.bl true) H'
theorem rT:aX AY AY (aG qL):=(by walk_at "c")
theorem Hd(F:i_ K "_law_same" "_law_same" qL f fd):bH P w K mg base ig (k+1) f fd AY (GD 0):=by
 refine F.ok rT (hbody:=(0:))
 obtain⟨v,u,d,rfl,_,_,h,_⟩:=h;exact h.elim
theorem my{G:Hp}:∀{bs:List Bool}{xs:List V},aj G (bs.map PyData.bool) xs->xs=bs.map V.bl
 | [],xs,h=>by unfold aj at h; exact h
 | b::bs,xs,h=>by
  obtain⟨x,r,rfl,h1,h2⟩:=aj.aP (d:=PyData.bool b) (ds:=bs.map PyData.bool) h;unfold At at h1;rw[h1,my h2]; rfl
theorem iY(n:Nat)(F:i_ K "_law_same" "_law_same" qL f fd)(B:Bi mg)(iH:Ct P w K mg base k "_law_same" AY (GD n)):bH P w K mg base ig (k+1) f fd AY (GD (n+1)):=by
 refine F.ok rT (hbody:=(0:))
 obtain⟨v,u,d,rfl,hv,hu,hd,ahU,q⟩:=h;have ND:=rT.nd;refine⟨_,(aq (cM (dD (pb XJ B.isinstance bN (ao (pv 1) (ao (bw (ao (pty (by rfl) B.list fP) (ao (pty (by rfl) B.tuple jH) ak))) ak)))) (aq (cM (PW.pt (qR (bu wG (pb J3 B.isinstance bN (ao (pv 0) (ao (pty (by rfl) B.list fP) ak))) (pb J3 B.isinstance bN (ao (pv 1) (ao (pty (by rfl) B.list fP) ak))) (bf _)) (lL (bu wG (pb J2 B.isinstance bN (ao (pv 0) (ao (pty (by rfl) B.tuple jH) ak))) (pb J2 B.isinstance bN (ao (pv 1) (ao (pty (by rfl) B.tuple jH) ak))) (bf _))))) (aH (a_ jr)) bF) (aH (a_ (sU (du iB (pb (cu (K:=K) rfl) B.len dq (ao (pv 0) ak)) (pb (cu (K:=K) rfl) B.len dq (ao (pv 1) ak)) (bf _)) (Bt (pb (iZ rfl) B.all tO (ao (iz (nt:=2) (N':=["_law_one","_law_other"]) (js:=[]) rfl (Tf (K:=K) rfl B.zip (ao (pv 0) (ao (pv 1) ak))) pF.of (fun fp s' H'=>(bQ (K:=K) (n:=2) rfl rfl (aD (aFN ["_law_one","_law_other"] 0) (aD (aFN ["_law_one","_law_other"] 1) bO)))) (fun fp s' H'=>gH) (fun fp s' H'=>(pf iH hr (ao (pv 0) (ao (pv 1) ak))))) ak))))))) bF) (aq (cM (PW.pt (qR (bu Bw (pv 1) iR (bf _)) (lL (dD (pb u_ B.isinstance bN (ao (pv 1) (ao (pty (by rfl) B.str CQ) ak))))))) (aH (a_ (sU (du iB (du Bw (pv 0) iR (bf _)) (du Bw (pv 1) iR (bf _)) (bf _)) (sU (du iB (pb u_ B.isinstance bN (ao (pv 0) (ao (pty (by rfl) B.str CQ) ak))) (pb u_ B.isinstance bN (ao (pv 1) (ao (pty (by rfl) B.str CQ) ak))) (bf _)) (Bt (du (P0 hr.units) (pv 0) (pv 1) (bf _))))))) bF) (aH (a_ (sU (pb Ul B.isinstance bN (ao (pv 0) (ao (pty (by rfl) B.int Ib) ak))) (sU (Xc (pb Qw B.isinstance bN (ao (pv 0) (ao (pty (by rfl) B.bool U5) ak)))) (Bt (du (P0 hr.units) (pv 0) (pv 1) (bf _))))))))),?_⟩
 ext;refine⟨⋯,fun pt H1 f1 s1 e1=>?_⟩
 refine⟨_,d,pt,rfl,hu.mono s1,e1,?_⟩;have hv1:=hv.mono s1;have hu1:=hu.mono s1;obtain⟨D1,D2,D3⟩:=SD.data _ _ hd;rcases hd with⟨i,rfl⟩ | rfl | ⟨t,rfl,hc⟩ | ⟨ds,rfl,hn,hds⟩ | ⟨ds,rfl,hn,hds⟩
 ·have eu:u=.int i:=by unfold At at hu; exact hu
  subst eu;rw[aN (by exact fun z=>by cases z)]
  refine⟨trivial,?_⟩;rw[aN (by rw[decide_eq_true_eq]; exact fun z=>by cases z)]
  refine Gk.of hu1 ⟨_,rfl,?_⟩;rw[aN (by exact fun z=>by cases z)]
  refine Gk.of hv1 ⟨_,rfl,?_⟩;rw[aV (by rfl)]
  refine Gk.of hv1 ⟨_,rfl,?_⟩;rw[aV (by rfl)]
  refine⟨_,_,hv1,hu1,rfl,rfl,rfl,rfl,by show 0<=60; decide,?_⟩
  rw[SeqAt.eqv_refl _ D2];exact q H1 s1
 ·have eu:u=.non:=by unfold At at hu; exact hu
  have ev:v=.non:=by unfold At at hv; exact hv
  subst eu ev;rw[aN (by exact fun z=>by cases z)]
  refine⟨trivial,?_⟩;rw[aV (by rw[decide_eq_true_eq])]
  refine⟨trivial,trivial,rfl,_,rfl,?_⟩;rw[aV (by rw[decide_eq_true_eq])]
  refine Gk.of hv1 (Gk.of hu1 ⟨rfl,_,rfl,?_⟩);rw[aV (by rw[decide_eq_true_eq])]
  refine⟨_,_,hv1,hu1,D1,D1,D2,D2,∅,?_⟩
  rw[SeqAt.eqv_refl _ D2];exact q H1 s1
 ·have eu:u=.str t:=by unfold At at hu; exact hu
  have ev:v=.str t:=by unfold At at hv; exact hv
  subst eu ev;rw[aN (by exact fun z=>by cases z)]
  refine⟨trivial,?_⟩;rw[aN (by rw[decide_eq_true_eq]; exact fun z=>by cases z)]
  refine Gk.of hu1 ⟨_,rfl,?_⟩;rw[aV (by rfl)]
  refine⟨trivial,trivial,rfl,_,rfl,?_⟩;rw[aV (by rw[decide_eq_true_eq])]
  refine Gk.of hv1 (Gk.of hu1 ⟨rfl,_,rfl,?_⟩);rw[aV (by rw[decide_eq_true_eq])]
  refine⟨_,_,hv1,hu1,D1,D1,D2,D2,∅,?_⟩
  rw[SeqAt.eqv_refl _ D2];exact q H1 s1
 ·rw[aV (by rfl)]
  refine Gk.of hv1 (Gk.of hu1 ⟨rfl,_,rfl,?_⟩);rw[aN (by show ¬((!decide (V.bl false=V.bl false))=true); decide)]
  refine Gk.of hv1 (Gk.of hu1 ⟨rfl,_,rfl,?_⟩);rw[aN (by show ¬((!decide (V.bl true=V.bl true))=true); decide)]
  obtain⟨a,xs,rfl,ha,hxs⟩:=bz hv1;obtain⟨b,ys,rfl,hb,hys⟩:=bz hu1;have lx:xs.length=ds.length:=hxs.length;have ly:ys.length=ds.length:=hys.length;refine⟨a,xs,rfl,.inr (dU.of ha),b,ys,rfl,.inr (dU.of hb),?_⟩;rw[lx,ly];refine⟨rfl,_,rfl,?_⟩;rw[aV (by rw[decide_eq_true_eq])]
  rw[yX];refine .inl ?_;refine Mw (es:=(ds.map fun _=>true).map PyData.bool) (fun R hR=>?_) ha hb (by simp; omega) (by simp; omega) (by simp only[bZ]; exact lK (aR ∅)) (aW.mpr fun d hd=>by obtain⟨z,_,rfl⟩:=d9.mp hd; rfl) (fun j x y e H' hx hy he s' R hR=>?_) (fun acc zs H' s' hacc hl hA=>?_)
  ·ext; exact hR
  ·obtain⟨d1,e1,a1⟩:=hxs.get hx;obtain⟨d2,e2,a2⟩:=hys.get hy;rw[e1] at e2;cases e2;rw[cD,cD,e1] at he;cases he;ext;exact⟨x,y,d1,rfl,a1.mono s',a2.mono s',hds _ (dN e1),∅,fun cQ s''=>hR _ _ s'' (At.bool _)⟩
  ·cases my hA;refine⟨acc,_,rfl,hl,?_⟩;rw[show(ds.map fun _=>true).all id=true by simp]
   exact q H' (s1.trans s')
 ·rw[aV (by rfl)]
  refine Gk.of hv1 (Gk.of hu1 ⟨rfl,_,rfl,?_⟩);rw[aN (by show ¬((!decide (V.bl true=V.bl true))=true); decide)]
  refine Gk.of hv1 (Gk.of hu1 ⟨rfl,_,rfl,?_⟩);rw[aN (by show ¬((!decide (V.bl false=V.bl false))=true); decide)]
  obtain⟨a,xs,rfl,ha,hxs⟩:=JS hv1;obtain⟨b,ys,rfl,hb,hys⟩:=JS hu1;have lx:xs.length=ds.length:=hxs.length;have ly:ys.length=ds.length:=hys.length;refine⟨a,xs,rfl,.inl (cz.of ha),b,ys,rfl,.inl (cz.of hb),?_⟩;rw[lx,ly];refine⟨rfl,_,rfl,?_⟩;rw[aV (by rw[decide_eq_true_eq])]
  rw[yX];refine .inr ?_;refine Mx (es:=(ds.map fun _=>true).map PyData.bool) (fun R hR=>?_) ha hb (by simp; omega) (by simp; omega) (by simp only[bZ]; exact lK (aR ∅)) (aW.mpr fun d hd=>by obtain⟨z,_,rfl⟩:=d9.mp hd; rfl) (fun j x y e H' hx hy he s' R hR=>?_) (fun acc zs H' s' hacc hl hA=>?_)
  ·ext; exact hR
  ·obtain⟨d1,e1,a1⟩:=hxs.get hx;obtain⟨d2,e2,a2⟩:=hys.get hy;rw[e1] at e2;cases e2;rw[cD,cD,e1] at he;cases he;ext;exact⟨x,y,d1,rfl,a1.mono s',a2.mono s',hds _ (dN e1),∅,fun cQ s''=>hR _ _ s'' (At.bool _)⟩
  ·cases my hA;refine⟨acc,_,rfl,hl,?_⟩;rw[show(ds.map fun _=>true).all id=true by simp]
   exact q H' (s1.trans s')
theorem Ou{l:List Nat}(h:∀c∈l,c<128):PyData.strOk (tx l)=true:=by
 show l.toArray.all (· < 0x110000)=true;simp only[List.all_toArray,oY,decide_eq_true_eq];intro c hc;have:=h c hc;omega
theorem SD.mono:∀{n m:Nat}{d:PyData},SD n d->n<=m->SD m d
 | 0,_,_,h,_=>h.elim
 | n+1,0,_,_,l=>by omega
 | n+1,m+1,d,h,l=>by
  rcases h with h | h | h | ⟨ds,rfl,l1,h⟩ | ⟨ds,rfl,l1,h⟩
  ·exact .inl h
  ·exact .inr (.inl h)
  ·exact .inr (.inr (.inl h))
  ·exact SD.tup l1 fun e he=>SD.mono (h e he) ∅
  ·exact SD.lst l1 fun e he=>SD.mono (h e he) ∅
theorem SD.on{o:Option Str}(h:∀z,o=some z->PyData.strOk z=true):SD 1 (zR o):=by
 cases o with
 | none=>exact SD.none
 | some z=>exact SD.str (h z rfl)
theorem fK.str{y:Yd}(h:fK y){n:Str}(hn:n∈y.ns):PyData.strOk n=true:=by
 obtain⟨cs,rfl,hc⟩:=h.ng n hn;exact Ou fun c hc'=>by have:=(hc.g c hc').2; omega
theorem Pr{H:Hp}{x:fU}{v:V}(h:At H (jq x) v):∃a b c d,v=.ref a/\H a=some (.tup [.int x.p,.int x.m,.ref b,.int x.a,.int x.e,.ref c,.ref d])/\H b=some (.tup [.int x.lo,.int x.hi])/\At H (.tuple [.int x.u,.int x.d]) (.ref c)/\At H (vZ x.ji) (.ref d):=by
 obtain⟨a,xs,rfl,h1,h2⟩:=bz h;obtain⟨x0,_,rfl,b0,h2⟩:=aj.aP h2;obtain⟨x1,_,rfl,b1,h2⟩:=aj.aP h2;obtain⟨x2,_,rfl,b2,h2⟩:=aj.aP h2;obtain⟨x3,_,rfl,b3,h2⟩:=aj.aP h2;obtain⟨x4,_,rfl,b4,h2⟩:=aj.aP h2;obtain⟨x5,_,rfl,b5,h2⟩:=aj.aP h2;obtain⟨x6,_,rfl,b6,h2⟩:=aj.aP h2;cases aj.gQ h2;unfold At at b0 b1 b3 b4;subst b0 b1 b3 b4;obtain⟨b,ys,rfl,g1,g2⟩:=bz b2;obtain⟨c,zs,rfl,_,_⟩:=bz b5;obtain⟨d,ws,rfl,_,_⟩:=bz b6;obtain⟨y0,_,rfl,k0,g2⟩:=aj.aP g2;obtain⟨y1,_,rfl,k1,g2⟩:=aj.aP g2;cases aj.gQ g2;unfold At at k0 k1;subst k0 k1;exact⟨a,b,c,d,rfl,h1,g1,b5,b6⟩
def OpG(ns:List Str)(op:Yd->Yd):Prop:=op=(fun y=>y)\/(∃(i:Nat)(x:fU),i<ns.length/\Ge x/\x.lo=0/\op=fun y=>{ y with ps:=y.ps.set i x })\/∃(i:Nat)(o:Option Str),i<ns.length/\(∀z,o=some z->z∈ns.drop (i+1))/\op=fun y=>{ y with os:=y.os.set i o }
structure aeA(C:Addr)(H:Hp)(zs:List (Ya×Yd)):Prop where
 at_:∀z∈zs,bD C H z.1 z.2
 dj:∀(i j:Nat)(z z':Ya×Yd),zs[i]?=some z->zs[j]?=some z'->i≠j->∀c∈z.1.own,c∉z'.1.own
theorem Wx{ps:List fU}{i:Nat}{x:fU}(h0:x.lo=0)(hp:∀z∈ps,Ge z):((ps.set i x).map fU.lo).sum<=(ps.map fU.lo).sum:=by
 induction ps generalizing i with
 | nil=>simp
 | cons p ps ih=>
  have hp':=hp p (eX ..);have:=hp'.lo;cases i with
  | zero=>simp only[List.set_cons_zero,jk,sG]; omega
  | succ i=>
   have:=ih (i:=i) fun z hz=>hp z (dX _ hz);simp only[List.set_cons_succ,jk,sG];omega
theorem OpG.ok{ns:List Str}{op:Yd->Yd}(h:OpG ns op){y:Yd}(YO:fK y)(e:y.ns=ns):fK (op y)/\(op y).ns=ns/\(op y).ss=y.ss/\(op y).ts=y.ts/\(op y).pa=y.pa/\(op y).tot=y.tot:=by
 subst e;rcases h with rfl | ⟨i,x,hi,hx,h0,rfl⟩ | ⟨i,o,hi,ho,rfl⟩
 ·exact⟨YO,rfl,rfl,rfl,rfl,rfl⟩
 ·refine⟨{ YO with lp:=by show(y.ps.set i x).length=_; rw[DW]; exact YO.lp,pg:=fun z hz=>?_,lm:=?_ },rfl,rfl,rfl,rfl,rfl⟩
  ·rcases Pg hz with h | h
   ·exact YO.pg z h
   ·rw[h]; exact hx
  ·have:=Wx (i:=i) h0 YO.pg;have:=YO.lm;show((y.ps.set i x).map fU.lo).sum<=y.tot;omega
 ·refine⟨{ YO with lo:=by show(y.os.set i o).length=_; rw[DW]; exact YO.lo,og:=fun j z hz=>?_ },rfl,rfl,rfl,rfl,rfl⟩
  replace hz:(y.os.set i o)[j]?=some (some z):=hz
  rw[Eo] at hz;split at hz
  ·rename_i e;subst e;split at hz
   ·exact ho z (Option.some.inj hz)
   ·cases hz
  ·exact YO.og j z hz
structure T0(ts0:List (List Int))(m:Nat):Prop where
 l:ts0.length=m
 g:∀t∈ts0,t.length=3
theorem abm{y:Yd}{cs:List (Str×Int)}:(CV y cs).ns=y.ns:=(dJ y (ql y.ns cs) y.ns.length).n
theorem VB{y:Yd}{cm:List Int}:∀i,i<=y.ns.length->∀r∈(aZ y cm i).2.2,r.n∈y.ns
 | 0,_,r,hr=>by simp[aZ] at hr
 | i+1,h,r,hr=>by
  have e':aZ y cm (i+1)=tQ (aZ y cm i) i:=rfl;rw[e'] at hr;unfold tQ at hr;dsimp only at hr;rcases gm.mp hr with z | z
  ·exact VB i (zL h) r z
  ·rw[dM.mp z];unfold sV;dsimp only;rw[(dJ y cm i).n,iI,cN (show i<y.ns.length by omega)]
   exact sH _
theorem aew{y:Yd}{cs:List (Str×Int)}:∀r∈yJ y cs,r.n∈y.ns:=VB _ (bc _)
theorem SD.rw{r:Rw}(h:PyData.strOk r.n=true):SD 2 (sy r):=SD.tup (by show 5<=1000; decide) fun e he=>by
 simp only[bK,fD,or_false] at he;rcases he with rfl | rfl | rfl | rfl | rfl
 ·exact SD.str h
 all_goals exact SD.int _
def VM(rs:List Rw):PyData:=.list (rs.map sy)
theorem SD.ln{rs:List Rw}(h:∀r∈rs,PyData.strOk r.n=true)(l:rs.length<=1000):SD 3 (VM rs):=SD.lst (by rw[bZ]; exact l) fun e he=>by
 obtain⟨r,hr,rfl⟩:=d9.mp he;exact SD.rw (h r hr)
theorem SD.lns{pa:List (List Rw)}(h:∀rs∈pa,∀r∈rs,PyData.strOk r.n=true)(l:pa.length<=1000)(l':∀rs∈pa,rs.length<=1000):SD 4 (.list (pa.map VM)):=SD.lst (by rw[bZ]; exact l) fun e he=>by
 obtain⟨r,hr,rfl⟩:=d9.mp he;exact SD.ln (h r hr) (l' r hr)
theorem cg.V6{H:Hp}:∀{ls:List Addr}{rs:List (List Rw)},cg H ls rs->aj H (rs.map VM) (ls.map V.ref)
 | [],[],_=>aj.nil
 | l::ls,r::rs,h=>by
  obtain⟨⟨xs,e,a⟩,h2⟩:=h;exact aj.cons (by unfold VM At; exact⟨l,xs,rfl,e,a⟩) (cg.V6 h2)
 | [],_::_,h=>h.elim
 | _::_,[],h=>h.elim
theorem vM{a b:TS}{D:Ends}{σ:St}{H:Hp}(R:St->Hp->Prop)(hR:∀σ' H',R σ' H'->b D σ' H')(h:∀N:St->Hp->Prop,(∀σ' H',R σ' H'->N σ' H')->a { D with nx:=N } σ H):rO a b D σ H:=h _ hR
structure WD(C a:Addr)(H0:Hp)(m:Nat)(zs:List (Ya×Yd))(ls:List (Addr×List V))(H':Hp):Prop where
 ys:aeA C H' zs
 yo:∀z∈zs,fK z.2
 fo:∀z∈zs,∀c∈z.1.own,H0 c=none/\c≠a/\∀l∈ls,c≠l.1
 lo:∀l∈ls,H0 l.1=none/\l.1≠a/\H' l.1=some (.lst l.2)
 tp:Tp H' a m
 sx:SX a H0 H'
section
variable{C a:Addr}{H0 H' cQ:Hp}{m m':Nat}{zs:List (Ya×Yd)}{ls:List (Addr×List V)}
theorem WD.Dt(W:WD C a H0 m zs ls H')(x:SX a H' cQ)(t:Tp cQ a m'):WD C a H0 m' zs ls cQ:=
 ⟨⟨fun z hz=>(W.ys.at_ z hz).keep (Oc W.tp x) fun b hb o e=>x.get (W.fo z hz b hb).2.1 e,W.ys.dj⟩,W.yo,W.fo,fun l hl=>⟨(W.lo l hl).1,(W.lo l hl).2.1,x.get (W.lo l hl).2.1 (W.lo l hl).2.2⟩,t,W.sx.trans x⟩
theorem WD.grow(W:WD C a H0 m zs ls H')(s:aJ H' cQ):WD C a H0 m zs ls cQ:=W.Dt (SX.of s) (W.tp.same s)
theorem WD.free(W:WD C a H0 m zs ls H'){b:Addr}(e:H' b=none):H0 b=none/\b≠a/\(∀l∈ls,b≠l.1)/\∀z∈zs,b∉z.1.own:=by
 have ba:=W.tp.ne e;refine⟨sxF W.sx ba e,ba,fun l hl z=>?_,fun z hz hb=>?_⟩
 ·rw[z,(W.lo l hl).2.2] at e; cases e
 ·obtain⟨o,eo,_⟩:=(W.ys.at_ z hz).al b hb;rw[eo] at e; cases e
theorem WD.mem(W:WD C a H0 m zs ls H'){b:Addr}{vs:List V}(f:H0 b=none)(ba:b≠a)(o:∀z∈zs,b∉z.1.own)(e:H' b=some (.lst vs)):WD C a H0 m zs ((b,vs)::ls) H':=
 ⟨W.ys,W.yo,fun z hz c hc=>⟨(W.fo z hz c hc).1,(W.fo z hz c hc).2.1,fun l hl=>by
  rcases bK.mp hl with h | h
  ·rw[h]; intro e'; exact o z hz (show b∈z.1.own from(show c=b from e')▸hc)
  ·exact(W.fo z hz c hc).2.2 l h⟩,fun l hl=>by
  rcases bK.mp hl with h | h
  ·rw[h]; exact⟨f,ba,e⟩
  ·exact W.lo l h,W.tp,W.sx⟩
theorem WD.new(W:WD C a H0 m zs ls H'){b:Addr}{vs:List V}(e0:H' b=none)(s:aJ H' cQ)(e:cQ b=some (.lst vs)):WD C a H0 m zs ((b,vs)::ls) cQ:=by
 obtain⟨f1,f2,_,f4⟩:=W.free e0;exact(W.grow s).mem f1 f2 f4 e
theorem WD.adn(W:WD C a H0 m zs ls H'){b:Addr}{vs:List V}(e0:H' b=none)(x:SX a H' cQ)(t:Tp cQ a m')(e:cQ b=some (.lst vs)):WD C a H0 m' zs ((b,vs)::ls) cQ:=by
 obtain⟨f1,f2,_,f4⟩:=W.free e0;exact(W.Dt x t).mem f1 f2 f4 e
theorem WD.less(W:WD C a H0 m zs ls H'){ls':List (Addr×List V)}(h:∀l∈ls',l∈ls):WD C a H0 m zs ls' H':=⟨W.ys,W.yo,fun z hz c hc=>⟨(W.fo z hz c hc).1,(W.fo z hz c hc).2.1,fun l hl=>(W.fo z hz c hc).2.2 l (h l hl)⟩,fun l hl=>W.lo l (h l hl),W.tp,W.sx⟩
theorem WD.kp(W:WD C a H0 m zs ls H'){S:List Addr}(f:Fr S H' cQ)(hS:∀b∈S,b=a\/∃z∈zs,b∈z.1.own):dW H' cQ:=f.kp fun b hb xs e=>by
 rcases hS b hb with h | ⟨z,hz,h⟩
 ·rw[h] at e; exact W.tp.neT e rfl
 ·obtain⟨o,eo,no⟩:=(W.ys.at_ z hz).al b h;rw[eo] at e; cases e; exact no _ rfl
theorem WD.Zy(W:WD C a H0 m zs ls H'){i:Nat}{A A':Ya}{y y':Yd}{S:List Addr}(hi:zs[i]?=some (A,y))(new:bD C cQ A' y')(YO:fK y')(f:Fr S H' cQ)(hS:∀b∈S,b∈A.own)(hA:∀c∈A'.own,c∈A.own\/H' c=none):WD C a H0 m (zs.set i (A',y')) ls cQ:=by
 have hz:=dN hi;have hl:i<zs.length:=(iW.mp hi).1;have kp:dW H' cQ:=W.kp f fun b hb=>.inr ⟨_,hz,hS b hb⟩
 have get:∀(j:Nat) z,(zs.set i (A',y'))[j]?=some z->(j=i/\z=(A',y'))\/(j≠i/\zs[j]?=some z):=fun j z h=>by
  rw[Eo] at h;split at h
  ·rename_i e;cases h;exact .inl ⟨e.symm,rfl⟩
  ·rename_i e;exact .inr ⟨Ne.symm e,h⟩
 have nw:∀c∈A'.own,H0 c=none/\c≠a/\(∀l∈ls,c≠l.1)/\∀j z,j≠i->zs[j]?=some z->c∉z.1.own:=fun c hc=>by
  rcases hA c hc with h | h
  ·obtain⟨f1,f2,f3⟩:=W.fo _ hz c h;exact⟨f1,f2,f3,fun j z hj ej=>W.ys.dj i j _ z hi ej (Ne.symm hj) c h⟩
  ·obtain⟨f1,f2,f3,f4⟩:=W.free h;exact⟨f1,f2,f3,fun j z _ ej=>f4 z (dN ej)⟩
 refine⟨⟨fun z hz'=>?_,fun j k z z' h1 h2 ne c hc=>?_⟩,fun z hz'=>?_,fun z hz' c hc=>?_,fun l hl'=>⟨(W.lo l hl').1,(W.lo l hl').2.1,f _ _ (W.lo l hl').2.2 fun h=>(W.fo _ hz _ (hS _ h)).2.2 l hl' rfl⟩,?_,?_⟩
 ·obtain⟨j,hj⟩:=Er hz';rcases get j z hj with⟨_,rfl⟩ | ⟨ne,e⟩
  ·exact new
  ·exact(W.ys.at_ z (dN e)).off f kp fun b hb hbS=>W.ys.dj j i z _ e hi ne b hb (hS b hbS)
 ·rcases get j z h1 with⟨e1,rfl⟩ | ⟨n1,e1⟩
  ·rcases get k z' h2 with⟨e2,rfl⟩ | ⟨n2,e2⟩
   ·omega
   ·exact(nw c hc).2.2.2 k z' n2 e2
  ·rcases get k z' h2 with⟨e2,rfl⟩ | ⟨n2,e2⟩
   ·exact fun h=>(nw c h).2.2.2 j z n1 e1 hc
   ·exact W.ys.dj j k z z' e1 e2 ne c hc
 ·obtain⟨j,hj⟩:=Er hz';rcases get j z hj with⟨_,rfl⟩ | ⟨ne,e⟩
  ·exact YO
  ·exact W.yo z (dN e)
 ·obtain⟨j,hj⟩:=Er hz';rcases get j z hj with⟨_,rfl⟩ | ⟨ne,e⟩
  ·exact⟨(nw c hc).1,(nw c hc).2.1,(nw c hc).2.2.1⟩
  ·exact W.fo z (dN e) c hc
 ·obtain⟨u1,u2,u3,eu,r⟩:=W.tp;exact⟨u1,u2,u3,f _ _ eu fun h=>(W.fo _ hz _ (hS _ h)).2.1 rfl,r⟩
 ·intro b o e;obtain⟨b1,b2⟩:=jz e;rw[cV b1]
  exact f _ _ (W.sx.get b1 b2) fun h=>by
   have:=(W.fo _ hz _ (hS _ h)).1;rw[b2] at this; cases this
theorem WD.made(W:WD C a H0 m zs ls H'){A:Ya}{y:Yd}(new:bD C cQ A y)(YO:fK y)(s:aJ H' cQ)(hA:∀c∈A.own,H' c=none):WD C a H0 m (zs++[(A,y)]) ls cQ:=by
 have W2:=W.grow s;have nw:∀c∈A.own,H0 c=none/\c≠a/\(∀l∈ls,c≠l.1)/\∀z∈zs,c∉z.1.own:=fun c hc=>W.free (hA c hc);refine⟨⟨fun z hz=>?_,fun j k z z' h1 h2 ne c hc=>?_⟩,fun z hz=>?_,fun z hz c hc=>?_,W2.lo,W2.tp,W2.sx⟩
 ·rcases gm.mp hz with h | h
  ·exact W2.ys.at_ z h
  ·rw[dM.mp h]; exact new
 ·have get:∀(j:Nat) z,(zs++[(A,y)])[j]?=some z->(j<zs.length/\zs[j]?=some z)\/(j=zs.length/\z=(A,y)):=fun j z h=>by
   by_cases hj:j<zs.length
   ·rw[yd hj] at h; exact .inl ⟨hj,h⟩
   ·rw[uy ∅] at h
    have:j-zs.length=0:=by
     cases e:j-zs.length with
     | zero=>rfl
     | succ e'=>rw[e] at h; simp at h
    rw[this] at h;cases h;exact .inr ⟨∅,rfl⟩
  rcases get j z h1 with⟨l1,e1⟩ | ⟨l1,rfl⟩
  ·rcases get k z' h2 with⟨l2,e2⟩ | ⟨l2,rfl⟩
   ·exact W2.ys.dj j k z z' e1 e2 ne c hc
   ·exact fun h=>(nw c h).2.2.2 z (dN e1) hc
  ·rcases get k z' h2 with⟨l2,e2⟩ | ⟨l2,rfl⟩
   ·exact(nw c hc).2.2.2 z' (dN e2)
   ·omega
 ·rcases gm.mp hz with h | h
  ·exact W.yo z h
  ·rw[dM.mp h]; exact YO
 ·rcases gm.mp hz with h | h
  ·exact W.fo z h c hc
  ·rw[dM.mp h] at hc;exact⟨(nw c hc).1,(nw c hc).2.1,(nw c hc).2.2.1⟩
theorem WD.put(W:WD C a H0 m zs ls H'){b:Addr}{vs vs':List V}(h:(b,vs)∈ls):WD C a H0 m zs ((b,vs')::ls.filter fun l=>l.1≠b) (upd H' b (.lst vs'))/\dW H' (upd H' b (.lst vs')):=by
 obtain⟨h1,h2,h3⟩:=W.lo _ h;have kp:dW H' (upd H' b (.lst vs')):=dW.putL h3;have ob:∀z∈zs,∀c∈z.1.own,c≠b:=fun z hz c hc=>(W.fo z hz c hc).2.2 _ h;refine⟨⟨⟨fun z hz=>(W.ys.at_ z hz).keep kp fun c hc o e=>by rw[aC (ob z hz c hc)]; exact e,W.ys.dj⟩,W.yo,fun z hz c hc=>⟨(W.fo z hz c hc).1,(W.fo z hz c hc).2.1,fun l hl=>?_⟩,fun l hl=>?_,W.tp.gB h2,W.sx.gB h1 h2⟩,kp⟩
 ·rcases bK.mp hl with e | e
  ·rw[e]; exact ob z hz c hc
  ·exact(W.fo z hz c hc).2.2 l (Ei.mp e).1
 ·rcases bK.mp hl with e | e
  ·rw[e]; exact⟨h1,h2,aB⟩
  ·obtain⟨e1,e2⟩:=Ei.mp e;have e2':l.1≠b:=by simpa using e2
   obtain⟨g1,g2,g3⟩:=W.lo l e1;exact⟨g1,g2,by rw[aC e2']; exact g3⟩
theorem aaO{t:Int}{ts:List T3}{ss:List gP}(T:Ig t ts)(hp:∀x∈ts,Ge x.2.1)(hl:ss.length=ts.length)(hS:∀z∈ss,M9 z)(hh:hands ss<=t):fK (yq t ts ss):=by
 refine⟨T.nn,by show 1<=(ts.map _).length; rw[bZ]; exact T.n1,by show(ts.map _).length<=5; rw[bZ]; exact T.n5,by show(ts.map _).length=(ts.map _).length; rw[bZ,bZ],by show(ts.map _).length=(ts.map _).length; rw[bZ,bZ],by show ss.length=(ts.map _).length; rw[bZ]; exact hl,by show(ts.map _).length=(ts.map _).length; rw[bZ,bZ],?_,?_,?_,hS,?_,hh,T.lm,by show 0<=500; decide,fun r hr=>by simp[yq] at hr⟩
 ·intro n hn;obtain⟨x,hx,rfl⟩:=d9.mp hn;exact T.ng x hx
 ·intro x hx;obtain⟨z,hz,rfl⟩:=d9.mp hx;exact hp z hz
 ·intro i z hz
  replace hz:(ts.map (·.2.2))[i]?=some (some z):=hz
  rw[cD] at hz;cases e:ts[i]? with
  | none=>rw[e] at hz; cases hz
  | some x=>
   rw[e] at hz;exact T.og i x z e (Option.some.inj hz)
 ·intro u hu;obtain⟨_,_,rfl⟩:=d9.mp hu;rfl
theorem Uc(W:WD C a H0 m zs ls H'){t:Int}{p:Addr}{ys:List V}{ts:List T3}{sv:V}{ss:List gP}{P:Addr->Hp->Prop}{E:XK}(hp:H' p=some (.lst ys))(ha:aj H' (ts.map I_) ys)(T:Ig t ts)(hps:∀x∈ts,Ge x.2.1)(hsv:(sv=.non/\ss=ts.map fun x=>fH x.2.1)\/∃l zs',sv=.ref l/\H' l=some (.lst zs')/\aj H' (ss.map xU) zs')(hl:ss.length=ts.length)(hS:∀z∈ss,M9 z)(hh:hands ss<=t)
  (q:∀A H2,aJ H' H2->WD C a H0 m (zs++[(A,yq t ts ss)]) ls H2->P A.p H2):∀y2 V5,H' y2=none->H' V5=none->V5≠y2->Gz C [.ref y2,.int t,.ref p,sv] (upd (upd H' V5 (.own y2)) y2 (.ins C V5 [])) (fun v H2=>v=.non/\P y2 H2) E:=by
 intro y2 V5 fy fdx ne;have s3:aJ H' (upd (upd H' V5 (.own y2)) y2 (.ins C V5 [])):=(aM fdx _).trans (aM (by rw[aC ne.symm]; exact fy) _)
 refine⟨y2,V5,t,p,ys,ts,sv,ss,rfl,aB,s3 _ _ hp,ha.mono s3,T,hps,?_,hl,hS,hh,fun A HC eA YC _ acA frC=>⟨rfl,?_⟩⟩
 ·rcases hsv with h | ⟨l,zs',h1,h2,h3⟩
  ·exact .inl h
  ·exact .inr ⟨l,zs',h1,s3 _ _ h2,h3.mono s3⟩
 ·subst eA;have sC:aJ H' HC:=fun c o e=>frC _ _ (s3 _ _ e) (by simp; intro z'; rw[z',fy] at e; cases e)
  refine q A HC sC (W.made YC (aaO T hps hl hS hh) sC fun c hc=>?_);rcases acA c hc with e | e
  ·rw[e]; exact fy
  ·cases q':H' c with
   | none=>rfl
   | some o=>rw[s3 _ _ q'] at e; cases e
theorem Ka{x:fU}(h:Ge x):M9 (fH x)/\hnd (fH x)=x.lo:=by
 have:=h.lo;refine⟨⟨this.1,rfl,?_,rfl,?_⟩,?_⟩
 ·intro y hy;unfold fH at hy;simp at hy;omega
 ·intro y hy;unfold fH at hy;simp at hy;rw[hy]; rfl
 ·unfold hnd fH;simp
theorem um:∀{ts:List T3},(∀x∈ts,Ge x.2.1)->hands (ts.map fun x=>fH x.2.1)=((ts.map (·.2.1)).map fU.lo).sum
 | [],_=>rfl
 | x::ts,h=>by
  have ih:=um (ts:=ts) fun z hz=>h z (dX _ hz);have:=(Ka (h x (eX ..))).2;unfold hands at ih ⊢;simp only[jk,sG] at ih ⊢;rw[ih,this]
end
def Z6:Sp:=fun vs H Q _=>∃(a:Addr)(n:Nat),vs=[.ref a]/\Tp H a n/\n<=10000000/\∀q (ts:List T3) us H',H q=none->q≠a->H' q=some (.lst us)->aj H' (ts.map I_) us->2<=ts.length->(∀t,((ts.map (·.2.1)).map fU.lo).sum<=t->Ig t ts)->(∀x∈ts,Ge x.2.1)->Tp H' a (n+3000)->SX a H H'->Q (.ref q) H'
theorem zg:aX ["_law_tape_here","_law_names_here","_law_rows_here","_law_k","_law_name","_law_post_here","_law_behind"] AM (aG vW):=(by walk_at "c")
theorem Lq(F:i_ K "_law_rows" "_law_rows" vW f fd)(B:Bi mg)(aK:Ct P w K mg base k "_law_draw" AL gC)(Rb:Ct P w K mg base k "_law_post" AM vK)(xP:Ct P w K mg base k "_law_small_post" AM vK)(MP:Ct P w K mg base k "_law_names" AL Wv):bH P w K mg base ig (k+1) f fd AM Z6:=by
 refine F.ok zg (hbody:=(0:))
 obtain⟨a,n,rfl,tp,hn,q⟩:=h;have ND:=zg.nd;refine⟨_,(aq (aU (i:=1) (pf MP hr (ao (pv 0) (ao (aO bA aA (pf aK hr (ao (pv 0) (ao aA ak)))) ak)))) (aq (aU (i:=2) (cG ak)) (aq (iQ PassesOwn.never rfl (JF (K:=K) rfl B.enumerate (ao (pv 1) ak)) (bQ (K:=K) (n:=2) rfl rfl (aD (aF (i:=3)) (aD (aF (i:=4)) bO))) (aq (aU (i:=5) (eQ (bu iB (pf aK hr (ao (pv 0) (ao aA ak))) aA (bf _)) (pf Rb hr (ao (pv 0) ak)) (pf xP hr (ao (pv 0) ak)))) (aq (aU (i:=6) (aO Hb (aO PQ (cW uR (pv 1) (dG (aO bA (pv 3) aA)) eZ) aA) (cG (ao iR ak)))) (aH (cT (gY (K:=K) rfl PySem.F.plainAttrs_list PySem.F.slot_list_append PySem.F.type_list_append fX (pv 2) (ao (bw (ao (pv 4) (ao (pv 5) (ao (bx bh (pv 6) (pf aK hr (ao (pv 0) (ao (pb (cu (K:=K) rfl) B.len dq (ao (pv 6) ak)) ak))) (fun _ _=>rfl)) ak)))) ak))))))) (aH (a_ (pv 2)))))),?_⟩
 simp only[zb 5];ext;refine cL.of tp ∅ ⋯ ⋯ fun d H2 d0 d1 t2 x2=>?_
 obtain⟨m,em,m1,m5⟩:∃m:Nat,2+d=(m:Int)/\2<=m/\m<=5:=⟨(2+d).toNat,∅,∅,∅⟩
 refine⟨2,d,rfl,rfl,?_⟩;rw[em];refine Nm.of (m:=m) rfl ∅ t2 ∅ fun pn zs H3 fn na lz gz ndz en t3 x3=>⟨⋯,fun pr H4 f4 s4 e4=>?_⟩
 have x14:SX a H H4:=x2.trans (x3.trans (SX.of s4));have YH:=t3.ne f4;have f4':H pr=none:=sxF (x2.trans x3) YH f4;have prn:pr≠pn:=fun z=>by rw[z,en] at f4; cases f4
 rw[yV];ext;refine EK.of (s4 _ _ en) (fun i σ H'=>∃(ts:List T3)(us:List V)(o3 o4 o5 o6:Option V),σ=[some (V.ref a),some (V.ref pn),some (V.ref pr),o3,o4,o5,o6]/\ts.length=i/\us.length=i/\ts.map (·.1)=(zs.take i).map tx/\(∀x∈ts,Ge x.2.1)/\(∀(j:Nat)(x:T3) z,ts[j]?=some x->x.2.2=some z->z∈(zs.map tx).drop (j+1))/\H' pn=some (.lst (zs.map fun z=>V.str (tx z)))/\H' pr=some (.lst us)/\aj H' (ts.map I_) us/\Tp H' a (n+301+402*i)/\SX a H H')
  ⟨[],[],_,_,_,_,rfl,rfl,rfl,rfl,by simp,by simp,s4 _ _ en,e4,aj.nil,(t3.same s4).mono ∅,x14⟩ (fun i σ H' _ hP=>by obtain⟨_,_,_,_,_,_,_,_,_,_,_,_,h,_⟩:=hP; exact h) ?_ ?_
 ·rintro i xv σ H5' px hxv ⟨ts,us,o3,o4,o5,o6,rfl,lt,lu,Ux,hps,hog,adZ,e5',a5',t5',x5'⟩ fp;rw[cD] at hxv
  have hiz:i<zs.length:=by
   cases e:zs[i]? with
   | none=>rw[e] at hxv; cases hxv
   | some z=>exact(iW.mp e).1
  rw[cN hiz] at hxv;cases hxv;have s5:=aM fp (HO.tup [.int (i:Nat),V.str (tx zs[i])]);have ep:upd H5' px (HO.tup [.int (i:Nat),V.str (tx zs[i])]) px=some (HO.tup [.int (i:Nat),V.str (tx zs[i])]):=aB;have t5:=t5'.same s5;have x5:SX a H (upd H5' px (HO.tup [.int (i:Nat),V.str (tx zs[i])])):=x5'.trans (SX.of s5);have en5:=s5 _ _ adZ;have e5:=s5 _ _ e5';have a5:=a5'.mono s5;generalize upd H5' px (HO.tup [.int (i:Nat),V.str (tx zs[i])])=H5 at ep t5 x5 en5 e5 a5 ⊢;refine⟨px,_,rfl,dU.of ep,rfl,?_⟩;ext;refine kJ.of (R:=fun σ H'=>∃pv x,σ=[some (V.ref a),some (V.ref pn),some (V.ref pr),some (.int (i:Nat)),some (V.str (tx zs[i])),some pv,o6]/\Ge x/\At H' (jq x) pv/\Tp H' a (n+301+402*i+401)/\SX a H5 H') ?_ ?_
  ·rintro σ H6 ⟨pv,x,rfl,hx,ax,t6,x6⟩;have en6:=x6.get na en5;have e6:=x6.get YH e5;have a6:=aj.kp (Oc t5 x6) _ _ (Ar _) a5;have adY:H6 pn=some (.lst ((zs.map tx).map V.str)):=by rw[uv]; exact en6
   ext;refine⟨pn,_,rfl,cz.of adY,fun p8 f8=>?_⟩;rw[lA ∅,show((i:Int)+1).toNat=i+1 by omega,<- zq]
   have s8:=aM f8 (HO.lst (((zs.map tx).drop (i+1)).map V.str));have ldr:((zs.map tx).drop (i+1)).length<=5:=by rw[uw,bZ]; omega
   refine⟨p8,3,_,rfl,rfl,aB,⋯,⋯,?_,fun p9 f9=>?_⟩
   ·rw[bZ];exact lK (aR (by show _*3<=1000; omega))
   have efl:(List.replicate (3:Int).toNat (((zs.map tx).drop (i+1)).map V.str)).flatten=(((zs.map tx).drop (i+1)++((zs.map tx).drop (i+1)++(zs.map tx).drop (i+1))).map some).map d7:=by
    rw[uv,gk,gk];show((zs.map tx).drop (i+1)).map V.str++(((zs.map tx).drop (i+1)).map V.str++(((zs.map tx).drop (i+1)).map V.str++[]))=_;rw[oX]; rfl
   rw[efl];generalize hD:(zs.map tx).drop (i+1)++((zs.map tx).drop (i+1)++(zs.map tx).drop (i+1))=D3
   have hD3:(∀z∈D3,z∈(zs.map tx).drop (i+1))/\D3.length<=15:=by
    rw[<- hD];refine⟨fun z hz=>?_,by simp only[cF]; omega⟩
    simpa only[gm,or_self] using hz
   have s9:=aM f9 (HO.lst ((D3.map some).map d7));have e9:upd (upd H6 p8 (.lst (((zs.map tx).drop (i+1)).map V.str))) p9 (.lst ((D3.map some).map d7)) p9=some (.lst ((D3.map some).map d7)):=aB;have s79:=s8.trans s9;generalize upd (upd H6 p8 (.lst (((zs.map tx).drop (i+1)).map V.str))) p9 (.lst ((D3.map some).map d7))=H9 at s79 e9 ⊢;refine⟨⋯,fun p7 H7 f7 s7 e7=>?_⟩
   obtain⟨os,eos,hos,los,l0⟩:∃os:List (Option Str),(D3.map some).map d7++[V.non]=os.map d7/\(∀o∈os,∀z,o=some z->z∈(zs.map tx).drop (i+1))/\os.length<=20/\1<=os.length:=by
    refine⟨D3.map some++[none],by rw[gk]; rfl,?_,by have:=hD3.2; simp; omega,by simp⟩
    intro o ho z hz;rcases gm.mp ho with h | h
    ·obtain⟨z',hz',ez⟩:=d9.mp h;rw[<- ez] at hz;cases hz;exact hD3.1 _ hz'
    ·rw[dM.mp h] at hz; cases hz
   refine La.of (s7 _ _ e9) e7 (by have:=hD3.2; simp only[fC,pW,bZ]; omega) fun pb HA fb sA eA=>?_
   rw[eos] at eA;have Z_:=s79.trans (s7.trans sA);have enA:=Z_ _ _ en6;have eA':=Z_ _ _ e6;refine⟨.inl ⟨rfl,_,cz.of eA'⟩,?_⟩;refine⟨pb,_,rfl,.inl (cz.of eA),?_⟩;have tA:=t6.same Z_;refine cL.of tA ∅ (by rw[bZ]; omega) (by rw[bZ]; omega) fun d8 HB d80 d81 tB xB=>?_
   rw[bZ] at d81;have pba:pb≠a:=(t6.same (s79.trans s7)).ne fb;have hd8:d8.toNat<os.length:=by omega
   refine Ix.lst (v:=d7 os[d8.toNat]) (xB.get pba eA) (by
    have:=aY (xs:=os.map d7) (j:=d8.toNat) (v:=d7 os[d8.toNat]) (by rw[cD,cN hd8]; rfl)
    rwa [Int.toNat_of_nonneg d80] at this) ⟨⋯,fun pc HC fc sC eC=>?_⟩
   have eB':=xB.get YH eA';have eC':=sC _ _ eB';have pca:pc≠a:=tB.ne fc;have kD:dW HC (upd HC pr (.lst (us++[.ref pc]))):=dW.putL eC';have k6D:=Z_.kp.trans ((Oc tA xB).trans (sC.kp.trans kD))
   have eD:upd HC pr (.lst (us++[.ref pc])) pc=some (.tup [V.str (tx zs[i]),pv,d7 os[d8.toNat]]):=by
    rw[aC (fun z=>by rw[z,eC'] at eC; cases eC)]; exact eC
   have x6C:SX a H6 HC:=(SX.of Z_).trans (xB.trans (SX.of sC));have a7:=aj.snoc (aj.kp k6D _ _ (Ar _) a6) (show At _ (I_ (tx zs[i],x,os[d8.toNat])) (.ref pc) from At.tup eD (aj.cons (At.str _) (aj.cons (At.kp k6D _ _ (Bm _) ax) (aj.cons (Fb _) aj.nil))));refine⟨pr,us,_,rfl,rfl,eC',by rw[lu]; exact aR ∅,ts++[(tx zs[i],x,os[d8.toNat])],us++[.ref pc],_,_,_,_,rfl,by rw[cF,lt]; rfl,by rw[cF,lu]; rfl,?_,?_,?_,?_,aB,?_,?_,?_⟩
   ·rw[gk,Ux,b8 (cN hiz),gk]; rfl
   ·intro x' hx';rcases gm.mp hx' with h | h
    ·exact hps x' h
    ·rw[dM.mp h]; exact hx
   ·intro j x' z h1 h2;by_cases hj:j<ts.length
    ·rw[yd hj] at h1;exact hog j x' z h1 h2
    ·rw[uy ∅] at h1
     have hj':j-ts.length=0:=by
      cases c:j-ts.length with
      | zero=>rfl
      | succ c'=>rw[c] at h1; simp at h1
     rw[hj'] at h1;cases h1;have:j=i:=by omega
     subst this;exact hos _ (sH hd8) z h2
   ·rw[aC prn.symm];exact sC _ _ (xB.get na enA)
   ·rw[gk]; exact a7
   ·exact((tB.same sC).gB YH).mono ∅
   ·exact(x5.trans (x6.trans x6C)).gB f4' YH
  ·intro N hN;ext;refine cL.of t5 ∅ ⋯ ⋯ fun d6 H6 d60 d61 t6 x6=>?_
   ext;have pp:vK [V.ref a] H6 (fun x H1=>N [some (V.ref a),some (V.ref pn),some (V.ref pr),some (.int (i:Nat)),some (V.str (tx zs[i])),some x,o6] H1) E0:=⟨a,_,rfl,t6,∅,fun p x H7 hx ax t7 x7=>hN _ _ ⟨_,x,rfl,hx,ax.mono Cg,t7,x6.trans x7⟩⟩
   exact dC (fun _=>pp) (fun _=>pp)
 ·rintro σ H5 ⟨ts,us,o3,o4,o5,o6,rfl,lt,lu,Ux,hps,hog,en5,e5,a5,t5,x5⟩;ext;rw[bZ] at lt;have enm:ts.map (·.1)=zs.map tx:=by rw[Ux,bZ,mV]
  refine q pr ts us _ f4' YH e5 a5 ∅ (fun t h=>⟨∅,∅,by rw[enm]; exact N_ ndz,fun x hx=>?_,fun j x z h1 h2=>by rw[enm]; exact hog j x z h1 h2,h⟩) hps (t5.mono (by rw[bZ]; omega)) x5
  obtain⟨j,hj⟩:=List.mem_iff_getElem?.mp hx;have h1:(zs.map tx)[j]?=some x.1:=by rw[<- enm,cD,hj]; rfl
  obtain⟨z,hz,e⟩:=d9.mp (dN h1);exact⟨z,e.symm,gz z hz⟩
structure RJ(a:Addr)(H0:Hp)(A:Ya)(gd:Addr)(kvs:List (Key×V))(H':Hp):Prop where
 e:H' gd=some (.dK kvs)
 f:H0 gd=none
 a:gd≠a
 o:gd∉A.own
theorem oh:∀{ns:List Str}{vs:List V},ns.length=vs.length->((zK ns vs).map fun q=>kV q.1)=ns.map V.str
 | [],_,_=>rfl
 | n::ns,[],h=>by cases h
 | n::ns,v::vs,h=>by
  show kV (Sum.inr n)::((zK ns vs).map fun q=>kV q.1)=_;rw[oh (Nat.succ.inj h)]; rfl
theorem WD.dict{C a:Addr}{H0 H' cQ:Hp}{m:Nat}{zs:List (Ya×Yd)}{ls:List (Addr×List V)}{gd:Addr}{kvs:List (Key×V)}(W:WD C a H0 m zs ls H')(f:Fr [gd] H' cQ)(e:H' gd=some (.dK kvs))(g0:H0 gd=none)(ga:gd≠a)(go:∀z∈zs,gd∉z.1.own):WD C a H0 m zs ls cQ/\dW H' cQ:=by
 have kp:dW H' cQ:=f.kp fun b hb xs h=>by rw[dM.mp hb,e] at h; cases h
 refine⟨⟨⟨fun z hz=>(W.ys.at_ z hz).keep kp fun c hc o h=>f _ _ h fun hb=>go z hz (dM.mp hb▸hc),W.ys.dj⟩,W.yo,W.fo,fun l hl=>⟨(W.lo l hl).1,(W.lo l hl).2.1,f _ _ (W.lo l hl).2.2 fun hb=>?_⟩,?_,?_⟩,kp⟩
 ·have:=(W.lo l hl).2.2;rw[dM.mp hb,e] at this;cases this
 ·obtain⟨u1,u2,u3,eu,r⟩:=W.tp;exact⟨u1,u2,u3,f _ _ eu fun h=>ga (dM.mp h).symm,r⟩
 ·intro b o h;obtain⟨b1,b2⟩:=jz h;rw[cV b1];exact f _ _ (W.sx.get b1 b2) fun h=>by rw[dM.mp h,g0] at b2; cases b2
theorem acJ{ok:AA->Prop}{tb:M8}{ts:TS}{D:Ends}{σ:St}{H:Hp}(R:St->Hp->Prop)(hR:∀σ' H',R σ' H'->D.nx σ' H')(h:∀N:St->Hp->Prop,(∀σ' H',R σ' H'->N σ' H')->Iz ok tb ts { D with nx:=N } σ H):Iz ok tb ts D σ H:=h _ hR
def Vt(C:Addr):Sp:=fun vs H Q _=>∃(a:Addr)(n:Nat)(A:Ya)(y:Yd)(gd:Addr)(ls:List (Addr×List V))(H0:Hp),vs=[.ref a,.ref A.p,.ref gd]/\WD C a H0 n [(A,y)] ls H/\RJ a H0 A gd (zK y.ns (y.os.map d7)) H/\n<=10000000 /\
 ∀os' H',WD C a H0 (n+2) [(A,{ y with os:=os' })] ls H'->RJ a H0 A gd (zK y.ns (os'.map d7)) H'->dW H H'->(∀b u,H b=some u->b≠a->b≠gd->b∉A.own->H' b=some u)->Q (.bl true) H'
theorem DG:aX ["_law_tape_here","_law_yard","_law_goals","_law_names_here","_law_name","_law_goal","_law_refused"] AZ (aG Ba):=(by walk_at "c")
theorem Qe{C bB:Addr}(F:i_ K "_law_led" "_law_led" Ba f fd)(B:Bi mg)(Z:ZL K mg bB)(aK:Ct P w K mg base k "_law_draw" AL gC)(iH:Ct P w K mg base k "_law_same" AY (GD 6))(jF:Df P w K mg base k C "onward" AV (vJ C gO))(rK:Gf P w K mg base k C "lead" AW (Vs C bB)):bH P w K mg base ig (k+1) f fd AZ (Vt C):=by
 refine F.ok DG (hbody:=fun cdv A' outer s H vs Q E hr h=>?_)
 obtain⟨a,n,A,y,gd,ls,H0,rfl,W,D,hn,q⟩:=h;have ND:=DG.nd;refine⟨_,(aq (aU (i:=3) (pt ((tG rfl)) B.list fP (ao (pv 2) ak))) (aq (aU (i:=4) (bx bh (pv 3) (pf aK hr (ao (pv 0) (ao (pb (cu (K:=K) rfl) B.len dq (ao (pv 3) ak)) ak))) (fun _ _=>rfl))) (aq (aU (i:=5) (bx bh (aO Hb (aO Hb (cG (ao iR ak)) (aO PQ (pv 3) aA)) (cG (ao (aO lQ (pv 4) fG) (ao fG ak)))) (pf aK hr (ao (pv 0) (ao (aO bA (aO jt aA (pb (cu (K:=K) rfl) B.len dq (ao (pv 3) ak))) aA) ak))) (fun _ _=>rfl))) (aq (aU (i:=6) jr) (aq (S5 (K:=K) rfl (Pn (Pq (ac8 rK hr (pv 1) (ao (pv 4) (ao (pv 5) ak))))) (fun e=>(aH (aU (i:=6) jr))) Z.Dg) (aq (cM (bu wG (pv 6) (sU (du uX (pv 5) iR (bf _)) (Bt (du (zP (K:=K) rfl) (pv 5) (cW uR (pv 3) (dG (aO bA (gY (K:=K) rfl PySem.F.plainAttrs_list PySem.F.slot_list_index PySem.F.type_list_index wU (pv 3) (ao (pv 4) ak)) aA)) eZ) (by with_unfolding_all rfl)))) (bf _)) (aH (a_ jr)) bF) (aq (cM (jo (dD (pv 6))) (aH (dF (pv 5) (nD (pv 2) (pv 4) (rR hr.units)))) bF) (aH (a_ (pb (iZ rfl) B.all tO (ao (dH (N':=["_law_one","_law_yard","_law_goals"]) (js:=[1,2]) rfl (bV (K:=K) rfl (pv 3)) uq.mk2 rfl ⋯ rfl (fun fp s' H'=>(pf iH hr (ao (pm jF hr (pv 1) (ao (pv 0) ak)) (ao (bx (pL hr.units) (pv 2) (pv 0) (fun _ _=>rfl)) ak))))) ak))))))))))),?_⟩
 have YO:fK y:=W.yo (A,y) (by simp)
 have l1:=YO.lo;have n1:=YO.n1;have n5:=YO.n5;simp only[Jh];refine vM (fun σ H'=>∃p1,σ=[some (.ref a),some (.ref A.p),some (.ref gd),some (.ref p1),none,none,none]/\aJ H H'/\WD C a H0 n [(A,y)] ((p1,y.ns.map V.str)::ls) H') ?_ ?_
 rotate_left
 ·intro N hN;ext;refine⟨gd,_,rfl,D.e,by rw[lD (by rw[bZ]; omega)]; omega,fun p1 f1=>?_⟩
  rw[oh (by rw[bZ]; omega)]
  have s1:=aM f1 (HO.lst (y.ns.map V.str));exact hN _ _ ⟨p1,rfl,s1,W.new f1 s1 aB⟩
 rintro σ H1 ⟨p1,rfl,s1,W1⟩;have e1:H1 p1=some (.lst (y.ns.map V.str)):=(W1.lo _ (eX ..)).2.2;refine vM (fun σ H'=>∃(j:Nat)(nm:Str),σ=[some (.ref a),some (.ref A.p),some (.ref gd),some (.ref p1),some (.str nm),none,none]/\y.ns[j]?=some nm/\WD C a H0 (n+1) [(A,y)] ((p1,y.ns.map V.str)::ls) H'/\SX a H1 H') ?_ ?_
 rotate_left
 ·intro N hN;ext;refine⟨p1,_,rfl,.inl (cz.of e1),?_⟩;rw[bZ];refine cL.of W1.tp ∅ ∅ ∅ fun d H2 d0 d1 t2 x2=>?_
  have W2:=W1.Dt x2 t2;have hd:d.toNat<y.ns.length:=by omega
  have hdn:y.ns[d.toNat]?=some y.ns[d.toNat]:=cN hd;refine Ix.lst (W2.lo _ (eX ..)).2.2 (v:=.str y.ns[d.toNat]) ?_ (hN _ _ ⟨d.toNat,_,rfl,hdn,W2,x2⟩);have:=aY (xs:=y.ns.map V.str) (j:=d.toNat) (v:=.str y.ns[d.toNat]) (by rw[cD,hdn]; rfl)
  rwa [Int.toNat_of_nonneg d0] at this
 rintro σ H2 ⟨j,nm,rfl,hj,W2,x2⟩;have e2:H2 p1=some (.lst (y.ns.map V.str)):=(W2.lo _ (eX ..)).2.2;have hjl:j<y.ns.length:=(iW.mp hj).1;obtain⟨cs,ecs,hcs⟩:=YO.ng nm (dN hj);refine vM (fun σ H'=>∃(o:Option Str),σ=[some (.ref a),some (.ref A.p),some (.ref gd),some (.ref p1),some (.str nm),some (d7 o),none]/\WD C a H0 (n+2) [(A,y)] ((p1,y.ns.map V.str)::ls) H'/\SX a H2 H') ?_ ?_
 rotate_left
 ·intro N hN;ext;refine⟨⋯,fun pa H4 f4 s4 e4=>?_⟩
  refine⟨p1,2,_,rfl,rfl,s4 _ _ e2,⋯,⋯,?_,fun p5 f5=>?_⟩
  ·rw[bZ];exact lK (aR (by show _*2<=1000; omega))
  have s5:=aM f5 (HO.lst (List.replicate (2:Int).toNat (y.ns.map V.str)).flatten)
  have e5:upd H4 p5 (.lst (List.replicate (2:Int).toNat (y.ns.map V.str)).flatten) p5=some (.lst (((y.ns++y.ns).map some).map d7)):=by
   rw[aB,uv,gk];show some (HO.lst (y.ns.map V.str++(y.ns.map V.str++[])))=_;rw[oX]; rfl
  generalize upd H4 p5 (.lst (List.replicate (2:Int).toNat (y.ns.map V.str)).flatten)=H5 at s5 e5 ⊢;refine La.of (s5 _ _ e4) e5 (by simp only[fC,pW,bZ,cF]; omega) fun p6 H6 f6 s6 e6=>?_
  refine⟨nm,_,rfl,rfl,?_,⋯,fun p7 H7 f7 s7 e7=>?_⟩
  ·rw[ecs];show cs.toArray.size+1<=sizeLine;have:=hcs.n;rw[d_];have h0:(20:Nat)<=sizeLine:=by decide
   omega
  refine La.of (s7 _ _ e6) e7 (by simp only[fC,pW,bZ,cF]; omega) fun p8 H8 f8 s8 e8=>?_
  have s28:=s4.trans (s5.trans (s6.trans (s7.trans s8)));obtain⟨os,eos,los⟩:∃os:List (Option Str),([V.non]++((y.ns++y.ns).map some).map d7)++[V.str (nm ++ "x"),V.str "zzzzzzzzz"]=os.map d7/\os.length=2*y.ns.length+3:=⟨(none::(y.ns++y.ns).map some)++[some (nm ++ "x"),some "zzzzzzzzz"],(gk (f:=d7) (l₁:=none::(y.ns++y.ns).map some) (l₂:=[some (nm ++ "x"),some "zzzzzzzzz"])).symm,by simp only[fC,pW,bZ,cF]; omega⟩
  rw[eos] at e8;have W8:=W2.grow s28;refine⟨p1,_,rfl,.inl (cz.of (s28 _ _ e2)),_,_,rfl,rfl,?_,?_⟩
  ·rw[bZ];exact .inl ⟨⋯,⋯⟩
  rw[bZ];refine cL.of W8.tp ∅ ∅ ∅ fun d H9 d0 d1 t9 x9=>?_
  have p8a:p8≠a:=(W2.grow (s4.trans (s5.trans (s6.trans s7)))).tp.ne f8;have hd:d.toNat<os.length:=by omega
  refine Ix.lst (v:=d7 os[d.toNat]) (x9.get p8a e8) (by
   have:=aY (xs:=os.map d7) (j:=d.toNat) (v:=d7 os[d.toNat]) (by rw[cD,cN hd]; rfl)
   rwa [Int.toNat_of_nonneg d0] at this) (hN _ _ ⟨_,rfl,W8.Dt x9 t9,(SX.of s28).trans x9⟩)
 rintro σ H3 ⟨o,rfl,W3,x3⟩;ext;refine acJ (R:=fun σ' H'=>∃b,σ'=[some (.ref a),some (.ref A.p),some (.ref gd),some (.ref p1),some (.str nm),some (d7 o),some (.bl b)]/\((b=true/\(∃z,o=some z/\z∉y.ns.drop (j+1))/\aJ H3 H')\/(b=false/\(∀z,o=some z->z∈y.ns.drop (j+1))/\bD C H' A { y with os:=y.os.set j o }/\Fr [A.dn] H3 H'))) ?_ ?_
 ·rintro σ' H4 ⟨b,rfl,hb⟩;have hdn:A.dn∈A.own:=by unfold Ya.own; simp
  have f4:Fr [A.dn] H3 H4:=hb.elim (fun h=>h.2.2.fr _) (fun h=>h.2.2.2);have D3:H3 gd=some (.dK (zK y.ns (y.os.map d7))):=x3.get D.a (x2.get D.a (s1 _ _ D.e));have D4:H4 gd=some (.dK (zK y.ns (y.os.map d7))):=f4 _ _ D3 fun h=>D.o (dM.mp h▸hdn);have inA:∀c∈[A.dn],c∈A.own:=fun c hc=>by rw[dM.mp hc]; exact hdn
  obtain⟨os',hos,W4⟩:∃os',((b=true/\(∃z,o=some z/\z∉y.ns.drop (j+1))/\os'=y.os)\/(b=false/\(∀z,o=some z->z∈y.ns.drop (j+1))/\os'=y.os.set j o))/\WD C a H0 (n+2) [(A,{ y with os:=os' })] ((p1,y.ns.map V.str)::ls) H4:=by
   rcases hb with⟨h1,h2,s4⟩ | ⟨h1,h2,Y4,f4⟩
   ·exact⟨y.os,.inl ⟨h1,h2,rfl⟩,W3.grow s4⟩
   ·have Gg:OpG y.ns (fun y=>{ y with os:=y.os.set j o }):=.inr (.inr ⟨j,o,hjl,h2,rfl⟩)
    exact⟨_,.inr ⟨h1,h2,rfl⟩,W3.Zy (i:=0) rfl Y4 (Gg.ok YO rfl).1 f4 inA fun c hc=>.inl hc⟩
  have k34:dW H3 H4:=W3.kp f4 fun c hc=>.inr ⟨_,dM.mpr rfl,inA c hc⟩;have k4:dW H H4:=s1.kp.trans ((Oc W1.tp x2).trans ((Oc W2.tp x3).trans k34));have YZ:∀b u,H b=some u->b≠a->b≠gd->b∉A.own->H4 b=some u:=fun b u e ba _ bo=>f4 _ _ (x3.get ba (x2.get ba (s1 _ _ e))) fun h=>bo (inA b h)
  have lo':os'.length=y.ns.length:=by
   rcases hos with⟨_,_,h⟩ | ⟨_,_,h⟩
   ·rw[h]; exact l1
   ·rw[h,DW]; exact l1
  clear hb f4 D3 k34 W3 W2 W1 e1 e2;dsimp only;have e4:H4 p1=some (.lst (y.ns.map V.str)):=(W4.lo _ (eX ..)).2.2;refine kJ.of (R:=fun σ' H'=>σ'=[some (.ref a),some (.ref A.p),some (.ref gd),some (.ref p1),some (.str nm),some (d7 o),some (.bl b)]/\aJ H4 H') ?_ ?_
  rotate_left
  ·intro N hN;ext;refine⟨trivial,?_⟩;cases o with
   | none=>
    have hb:b=false:=by
     rcases hos with⟨_,⟨z,h,_⟩,_⟩ | ⟨h,_⟩
     ·cases h
     ·exact h
    subst hb;rw[aN (by simp[d7])]
    exact⟨rfl,_,rfl,by rw[aN (by simp)]; exact hN _ _ ⟨rfl,aJ.refl _⟩⟩
   | some z=>
    rw[aV (by simp[d7])]
    refine⟨.inl ⟨rfl,_,cz.of e4⟩,p1,y.ns,nm,j,rfl,e4,rfl,∅,YO.nn,hj,_,_,rfl,rfl,p1,_,rfl,cz.of e4,fun p9 f9=>?_⟩
    rw[lA ∅,show((j:Int)+1).toNat=j+1 by omega,<- zq]
    have s9:=aM f9 (HO.lst ((y.ns.drop (j+1)).map V.str));refine⟨p9,_,rfl,.inl (cz.of aB),rfl,tu _,rfl,_,rfl,?_⟩;have hz:inV (d7 (some z)) ((y.ns.drop (j+1)).map V.str)=decide (z∈y.ns.drop (j+1)):=vd z _;rw[aV rfl,hz]
    have hb:b = !decide (z∈y.ns.drop (j+1)):=by
     rcases hos with⟨h1,⟨z',h2,h3⟩,_⟩ | ⟨h1,h2,_⟩
     ·cases h2; rw[h1,j4 h3]; rfl
     ·rw[h1,mU (h2 z rfl)]; rfl
    rw[<- hb,aN (by simp)]
    exact hN _ _ ⟨rfl,s9⟩
  rintro σ' H5 ⟨rfl,s5⟩;refine kJ.of (R:=fun σ' H'=>σ'=[some (.ref a),some (.ref A.p),some (.ref gd),some (.ref p1),some (.str nm),some (d7 o),some (.bl b)]/\WD C a H0 (n+2) [(A,{ y with os:=os' })] ((p1,y.ns.map V.str)::ls) H'/\H' gd=some (.dK (zK y.ns (os'.map d7)))/\dW H H'/\(∀b u,H b=some u->b≠a->b≠gd->b∉A.own->H' b=some u)) ?_ ?_
  rotate_left
  ·intro N hN;ext;have D5:=s5 _ _ D4;have W5:=W4.grow s5;have k5:=k4.trans s5.kp;have Rv:∀b u,H b=some u->b≠a->b≠gd->b∉A.own->H5 b=some u:=fun b u e h1 h2 h3=>s5 _ _ (YZ b u e h1 h2 h3);rcases hos with⟨rfl,_,rfl⟩ | ⟨rfl,_,rfl⟩
   ·rw[aN ⋯]
    exact hN _ _ ⟨rfl,W5,D5,k5,Rv⟩
   ·rw[aV ⋯]
    refine⟨gd,_,rfl,qz.z D5 YO.nn hj (by rw[bZ]; omega) ∅,?_⟩
    rw[<- wz];have f6:Fr [gd] H5 (upd H5 gd (.dK (zK y.ns ((y.os.set j o).map d7)))):=Fr.put (by simp)
    obtain⟨W6,k6⟩:=W5.dict f6 D5 D.f D.a fun z hz=>by rw[dM.mp hz]; exact D.o
    exact hN _ _ ⟨rfl,W6,aB,k5.trans k6,fun b u e h1 h2 h3=>by rw[aC h2]; exact Rv b u e h1 h2 h3⟩
  rintro σ' H6 ⟨rfl,W6,D6,k6,Uu⟩;ext;have e6:H6 p1=some (.lst (y.ns.map V.str)):=(W6.lo _ (eX ..)).2.2;have Zd:fK { y with os:=os' }:=W6.yo (A,{ y with os:=os' }) (by simp)
  refine oN ((y.ns.map fun _=>true).map .bool) (fun R hR=>by ext; exact hR) e6 (by simp) (by rw[bZ]; omega) (aW.mpr fun d hd=>by obtain⟨z,_,rfl⟩:=d9.mp hd; rfl) (fun i x d H' hx hd s' R hR=>?_) fun acc vs H7 f7 s7 e7 a7=>?_
  ·rw[cD] at hx;cases en:y.ns[i]? with
   | none=>rw[en] at hx; cases hx
   | some nm'=>
   rw[en] at hx;cases hx;rw[cD,cD,en] at hd;cases hd;have hi:i<y.ns.length:=(iW.mp en).1;have eo:os'[i]?=some os'[i]:=cN ∅
   show mZ _ _ _ _ [some (.str nm'),some (.ref A.p),some (.ref gd)] H' R;ext;have Y7:=(W6.grow s').ys.at_ (A,{ y with os:=os' }) (by simp)
   refine Me.of (m:="onward") (R:=fun p=>_) Y7 (fun _ _ _ _ _ _ _=>rfl) ⟨A,{ y with os:=os' },i,nm',zR os'[i],rfl,Y7,Zd,en,by show(os'.map zR)[i]?=_; rw[cD,eo]; rfl,fun v H8 s8 av=>?_⟩
   refine⟨gd,d7 os'[i],rfl,iV.z ((s'.trans s8) _ _ D6) YO.nn en (by rw[bZ]; omega) (by rw[cD,eo]; rfl),⟨v,d7 os'[i],zR os'[i],rfl,av,Fb _,(SD.on fun z hz=>?_).mono ⋯,⋯,fun H9 s9=>hR _ _ (s8.trans s9) (At.bool true)⟩⟩
   exact YO.str (Ea (Zd.og i z (by rw[<- hz]; exact eo)))
  ·have:=my a7;subst this;refine⟨acc,_,rfl,e7,?_⟩;rw[show(y.ns.map fun _=>true).all id=true by simp]
   exact q os' H7 ((W6.grow s7).less fun l h=>dX _ h) ⟨s7 _ _ D6,D.f,D.a,D.o⟩ (k6.trans s7.kp) fun b u e h1 h2 h3=>s7 _ _ (Uu b u e h1 h2 h3)
 ·intro N hN;unfold Iz;ext;have Y3:bD C H3 A y:=W3.ys.at_ (A,y) (by simp)
  refine Me.of (m:="lead") (R:=fun p=>_) Y3 (fun _ _ _ _ _ _ _=>rfl) ?_;exact⟨A,y,j,nm,o,rfl,Y3,YO,hj,fun h H4 Y4 f4=>hN _ _ ⟨false,rfl,.inr ⟨rfl,h,Y4,f4⟩⟩,fun z hz hn H4 s4=>⟨Z.HH,fun a2 H5 s5 _=>hN _ _ ⟨true,rfl,.inl ⟨rfl,⟨z,hz,hn⟩,s5 s4⟩⟩⟩⟩
def CdG(kvs:List (Key×V))(ns:List Str)(cm:List Int):Prop:=∀(j:Nat) n,ns[j]?=some n->(gM kvs (.inr n:Key)).getD (.int 0)=.int (cm.getD j 0)
def RB(q:Str×Int):Key×V:=(.inr q.1,.int q.2)
theorem tZ(n:Str):∀(cs:List (Str×Int))(acc:List (Key×V)),(cs.map (·.1)).Nodup->gM (gG acc (cs.map RB)) (.inr n:Key)=match cs.lookup n with | some c=>some (.int c) | none=>gM acc (.inr n)
 | [],acc,_=>rfl
 | q::cs,acc,nd=>by
  show gM (gG (putK acc (.inr q.1) (.int q.2)) (cs.map RB)) _=_;have nd':=jK.mp nd;rw[tZ n cs _ nd'.2];by_cases e:n=q.1
  ·subst e
   have:cs.lookup q.1=none:=Pj.mpr fun p hp=>by
    simp only[bne_iff_ne,ne_eq];intro z;exact nd'.1 (by show q.1∈cs.map (·.1); rw[z]; exact List.mem_map_of_mem hp)
   have e3:(q::cs).lookup q.1=some q.2:=by rw[j5]; simp
   rw[this,e3,Dp,aV rfl]
  ·have e2:(q::cs).lookup n=cs.lookup n:=by
    rw[j5];have:(n==q.1)=false:=by simpa using e
    rw[this]
   rw[e2,Dp,aN (by intro z; exact e (Sum.inr.inj z))]
theorem CdG.init{ns:List Str}{cs:List (Str×Int)}(nd:(cs.map (·.1)).Nodup):CdG (gG [] (cs.map RB)) ns (ql ns cs):=fun j n hj=>by
 rw[tZ n cs [] nd,iI];unfold ql;rw[cD,hj];cases e:cs.lookup n with
 | none=>simp[e,NK]
 | some c=>simp[e]
theorem Mv{H:Hp}{us:List V}{cs:List (Str×Int)}(a:aj H (cs.map UL) us):C_ H us (cs.map RB):=by
 have l:=a.length;refine⟨by rw[bZ] at l ⊢; exact l,fun i x q hx hq=>?_⟩
 obtain⟨d,hd,ad⟩:=a.get hx;rw[cD] at hd hq;cases e:cs[i]? with
 | none=>rw[e] at hd; cases hd
 | some z=>
  rw[e] at hd hq;cases hd;cases hq;obtain⟨b,rfl,eb⟩:=Q3 ad;exact⟨b,rfl,eb⟩
def iC(nm:Str):List (Option Str)->List Rw->List Int
 | o::os,r::rs=>if o=some nm then r.d::iC nm os rs else iC nm os rs
 | _,_=>[]
theorem sW(nm:Str):∀(os:List (Option Str))(rs:List Rw)(o:Option Str)(r:Rw),os.length=rs.length->iC nm (os++[o]) (rs++[r])=iC nm os rs++(if o=some nm then[r.d] else[])
 | [],[],o,r,_=>by
  show(if o=some nm then r.d::[] else[])=_
  split <;> rfl
 | o'::os,r'::rs,o,r,h=>by
  have ih:=sW nm os rs o r (Nat.succ.inj h);show(if o'=some nm then r'.d::iC nm (os++[o]) (rs++[r]) else iC nm (os++[o]) (rs++[r]))=(if o'=some nm then r'.d::iC nm os rs else iC nm os rs)++_
  rw[ih];split <;> rfl
 | [],_::_,_,_,h=>by cases h
 | _::_,[],_,_,h=>by cases h
structure LnR(y:Yd)(rs:List Rw)(cs:List (Str×Int))(ws:List Int):Prop where
 l:rs.length=y.ns.length
 w:ws.length=y.ns.length
 r:∀(i:Nat) r nm s wt,rs[i]?=some r->y.ns[i]?=some nm->y.ss[i]?=some s->ws[i]?=some wt->r.n=nm/\r.c=(ql y.ns cs).getD i 0+(iC nm y.os rs).sum/\0<=r.d/\0<=r.a/\r.c=r.d+r.a+s.w-wt
def Z8(C:Addr):Sp:=fun vs H Q _=>∃(A:Ya)(y:Yd)(rs:List Rw)(p:Addr)(xs:List V)(gd pc:Addr)(us:List V)(cs:List (Str×Int))(wd:Addr)(ws:List Int),vs=[.ref A.p,.ref p,.ref gd,.ref pc,.ref wd]/\bD C H A y/\fK y/\H p=some (.lst xs)/\aj H (rs.map sy) xs/\H gd=some (.dK (zK y.ns (y.os.map d7)))/\H pc=some (.lst us)/\aj H (cs.map UL) us/\CmG y.ns cs/\H wd=some (.dK (zK y.ns (ws.map .int)))/\gd≠wd/\wd∉A.own/\LnR y rs cs ws /\
 ∀H',H' wd=some (.dK (zK y.ns ((y.ss.map gP.w).map .int)))->(∀b u,b≠wd->H b=some u->H' b=some u)->Q (.bl true) H'
theorem mC:aX ["_law_yard","_law_told","_law_goals","_law_comes_here","_law_waits","_law_given","_law_name","_law_row_here","_law_onto","_law_wait"] Ap (aG jd):=(by walk_at "c")
theorem uA{C:Addr}(F:i_ K "_law_line_right" "_law_line_right" jd f fd)(B:Bi mg)(Z:ZY K C)(iH:Ct P w K mg base k "_law_same" AY (GD 6))(kh:Df P w K mg base k C "stand" AV (vJ C gS)):bH P w K mg base ig (k+1) f fd Ap (Z8 C):=by
 refine F.ok mC (hbody:=fun cdv A' outer s H vs Q E hr h=>?_)
 obtain⟨A,y,rs,p,xs,gd,pc,us,cs,wd,ws,rfl,YA,YO,ep,ax,eg,epc,au,CG,ew,gw,wo,L,q⟩:=h;have ND:=mC.nd;refine⟨_,(aq (aU (i:=5) (pt (qp hr.units rfl) B.dict vm (ao (pv 3) ak))) (aq (cM (PW.pt (qR (jo (dD (pb Qv B.isinstance bN (ao (pv 1) (ao (pty (by rfl) B.list fP) ak))))) (lL (bu wG (pb (cu (K:=K) rfl) B.len dq (ao (pv 1) ak)) (pb (MN) B.len dq (ao (pv 2) ak)) (bf _))))) (aH (a_ jr)) bF) (aq (iQ PassesOwn.never rfl (JD (K:=K) rfl B.zip (ao (pt ((tG rfl)) B.list fP (ao (pv 2) ak)) (ao (pv 1) ak))) (bQ (K:=K) (n:=2) rfl rfl (aD (aF (i:=6)) (aD (aF (i:=7)) bO))) (aq (aU (i:=8) (pb (fZ rfl) B.sum n_ (ao (iz (nt:=1) (N':=["_law_one","_law_goals","_law_name"]) (js:=[2,6]) rfl (bV (K:=K) rfl (pv 1)) pF.of (fun fp s' H'=>(aFN ["_law_one","_law_goals","_law_name"] 0)) (fun fp s' H'=>Um (bu iB (Ey (Jq (Nat.add_le_add_left (by decide:1<=64) _) hr.units) (pv 1) (bx bh (pv 0) aA (fun _ _=>rfl)) iR ⟨rfl,rfl,rfl,rfl⟩) (pv 2) (bf _))) (fun fp s' H'=>(bx bh (pv 0) aA (fun _ _=>rfl)))) ak))) (aq (aU (i:=9) (bx bh (pm kh hr (pv 0) (ao (pv 6) ak)) aA (fun _ _=>rfl))) (aq (cM (PW.pt (qR (jo (dD (pf iH hr (ao (cW jN (pv 7) eZ (dG aA)) (ao (bw (ao (pv 6) (ao (aO bA (Ey (Jq (Nat.add_le_add_left (by decide:1<=64) _) hr.units) (pv 5) (pv 6) aA ⟨rfl,rfl,rfl,rfl⟩) (pv 8)) ak))) ak))))) (lL (bu wG (pb (cu (K:=K) rfl) B.len dq (ao (pv 7) ak)) aA (bf _))))) (aH (a_ jr)) bF) (aq (cM (PW.pt (qR (bu ud (pb ((MF rfl)) B.min mq (ao (cW jN (pv 7) (dG aA) (dG aA)) ak)) aA (bf _)) (lL (bu wG (bx bh (pv 7) aA (fun _ _=>rfl)) (aO j6 (aO bA (aO bA (bx bh (pv 7) aA (fun _ _=>rfl)) (bx bh (pv 7) aA (fun _ _=>rfl))) (pv 9)) (bx (pL hr.units) (pv 4) (pv 6) (fun _ _=>rfl))) (bf _))))) (aH (a_ jr)) bF) (aH (dF (pv 9) (nD (pv 4) (pv 6) (rR hr.units))))))))) (aH (a_ jr))))),?_⟩
 have n5:=YO.n5;have l1:=YO.lo;have l2:=YO.ls;have lu:=au.length;rw[bZ] at lu;have lcs:=CG.l;have lx:=ax.length;rw[bZ] at lx;have lr:=L.l;have lw:=L.w;simp only[Jh];ext;refine⟨pc,us,cs.map RB,rfl,epc,∅,Mv au,fun dc Y0=>?_⟩
 have s1:=aM Y0 (HO.dK (gG [] (cs.map RB)));have e1:upd H dc (.dK (gG [] (cs.map RB))) dc=some (.dK (gG [] (cs.map RB))):=aB;generalize upd H dc (.dK (gG [] (cs.map RB)))=H1 at s1 e1 ⊢;refine kJ.of (R:=fun σ' H'=>σ'=[some (.ref A.p),some (.ref p),some (.ref gd),some (.ref pc),some (.ref wd),some (.ref dc),none,none,none,none]/\H1=H') ?_ ?_
 rotate_left
 ·intro N hN;ext;have ep1:=s1 _ _ ep;refine⟨.ref p,.list (rs.map sy),rfl,fun K'=>(At.lst ep1 (ax.mono s1)).ty,true,rfl,?_⟩;rw[aN ⋯]
  refine⟨p,_,rfl,.inl (cz.of ep1),gd,_,rfl,s1 _ _ eg,rfl,_,rfl,?_⟩;rw[aN (by rw[lD (by rw[bZ]; omega),lx,lr]; simp)]
  exact hN _ _ ⟨rfl,rfl⟩
 rintro σ' H' ⟨rfl,rfl⟩
 have row:∀(r:Rw)(H:Hp)(v:V),At H (sy r) v->∃b g,v=.ref b/\H b=some (.tup [.str r.n,.int r.c,.int r.d,.int r.a,g]):=fun r H v h=>by
  unfold sy At at h;obtain⟨b,ys,rfl,eb,ay⟩:=h;obtain⟨_,_,rfl,h1,_,_,rfl,h2,_,_,rfl,h3,_,_,rfl,h4,g,_,rfl,h5,ay⟩:=ay;subst ay;unfold At at h1 h2 h3 h4;subst h1 h2 h3 h4;exact⟨b,g,rfl,eb⟩
 simp only[rO];rw[KQ];ext;refine⟨gd,_,rfl,s1 _ _ eg,by rw[lD (by rw[bZ]; omega)]; omega,fun pk fk=>?_⟩
 rw[oh (by rw[bZ]; omega)]
 have s2:=aM fk (HO.lst (y.ns.map V.str));have e2:upd H1 pk (.lst (y.ns.map V.str)) pk=some (.lst (y.ns.map V.str)):=aB;generalize upd H1 pk (.lst (y.ns.map V.str))=H2 at s2 e2 ⊢;have s02:=s1.trans s2;have pkw:pk≠wd:=fun z=>by rw[z,s1 _ _ ew] at fk; cases fk
 have pw:p≠wd:=fun z=>by rw[z,ew] at ep; cases ep
 have dw:dc≠wd:=fun z=>by rw[z,ew] at Y0; cases Y0
 refine ZKL.of e2 (s02 _ _ ep) (by rw[bZ]; omega) (fun i σ H'=>∃o6 o7 o8 o9 wv,σ=[some (.ref A.p),some (.ref p),some (.ref gd),some (.ref pc),some (.ref wd),some (.ref dc),o6,o7,o8,o9]/\H' wd=some (.dK (zK y.ns (wv.map .int)))/\wv.length=y.ns.length/\(∀j,j<i->wv[j]?=(y.ss.map gP.w)[j]?)/\(∀j,i<=j->wv[j]?=ws[j]?)/\∀b u,b≠wd->H2 b=some u->H' b=some u) ⟨_,_,_,_,ws,rfl,s02 _ _ ew,lw,fun j hj=>by omega,fun _ _=>rfl,fun _ _ _ h=>h⟩ (fun i σ H' _ ⟨_,_,_,_,_,_,_,_,_,_,h⟩=>⟨h _ _ pkw e2,h _ _ pw (s02 _ _ ep)⟩) ?_ ?_
 ·rintro i x v σ H3' pt hx hv ⟨o6,o7,o8,o9,wv,rfl,aba,lwv,hlo,hhi,k3'⟩ fp;have s3:=aM fp (HO.tup [x,v]);have et:upd H3' pt (HO.tup [x,v]) pt=some (HO.tup [x,v]):=aB;have ew3:=s3 _ _ aba;have k3:∀b u,b≠wd->H2 b=some u->upd H3' pt (HO.tup [x,v]) b=some u:=fun b u n e=>s3 _ _ (k3' b u n e);generalize upd H3' pt (HO.tup [x,v])=H3 at et ew3 k3 ⊢;clear s3 aba k3' fp;rw[cD] at hx;cases en:y.ns[i]? with
  | none=>rw[en] at hx; cases hx
  | some nm=>
  rw[en] at hx;cases hx;have hi:i<y.ns.length:=(iW.mp en).1;have k03:∀b u,b≠wd->H b=some u->H3 b=some u:=fun b u n e=>k3 b u n (s02 _ _ e);have aaU:dW H H3:=fun b xs e=>k03 b _ (fun z=>by rw[z,ew] at e; cases e) e
  have ax3:=aj.kp aaU _ _ (eU _) ax;have er:rs[i]?=some rs[i]:=cN ∅
  obtain⟨v',hv',av⟩:=ax3.getD (i:=i) (d:=sy rs[i]) (by rw[cD,er]; rfl)
  rw[hv] at hv';cases hv';obtain⟨b,g,rfl,eb⟩:=row _ _ _ av;have es:y.ss[i]?=some y.ss[i]:=cN ∅
  have ewt:ws[i]?=some ws[i]:=cN ∅
  obtain⟨r1,r2,r3,r4,r5⟩:=L.r i _ nm _ _ er en es ewt;generalize rs[i]=r at er eb av r1 r2 r3 r4 r5;generalize y.ss[i]=st at es r5;generalize ws[i]=wt at ewt r5;refine⟨pt,_,rfl,dU.of et,rfl,?_⟩;ext;have Y3:bD C H3 A y:=YA.keep aaU fun c hc o e=>k03 c o (fun z=>wo (z▸hc)) e;have eg3:=k03 _ _ gw eg;have ep3:=k03 _ _ pw ep;refine Q7 (fun j=>[some (xs.getD j .non)]) (fun _=>rfl) (fun R hR=>by ext; exact hR) ep3 (fun acc aa7=>?_)
  refine⟨fun j ys H'=>j<=rs.length/\ys=(iC nm (y.os.take j) (rs.take j)).map V.int/\H' acc=some (.lst ys)/\aJ H3 H',⟨eV _,by simp[iC],aB,aM aa7 _⟩,fun j ys H' h=>h.2.2.2 _ _ ep3,fun j x ys H' hx h=>?_,fun ys H' h=>?_⟩
  ·obtain⟨hj,rfl,ea,sa⟩:=h;have hjx:j<xs.length:=(iW.mp hx).1;have exd:xs.getD j .non=x:=by rw[iI,hx]; rfl
   have erj:rs[j]?=some rs[j]:=cN ∅
   have eoj:y.os[j]?=some y.os[j]:=cN ∅
   have enj:y.ns[j]?=some y.ns[j]:=cN ∅
   have esj:y.ss[j]?=some y.ss[j]:=cN ∅
   have ewj:ws[j]?=some ws[j]:=cN ∅
   obtain⟨q1,_⟩:=L.r j _ _ _ _ erj enj esj ewj;obtain⟨v',hv',avj⟩:=(ax3.mono sa).getD (i:=j) (d:=sy rs[j]) (by rw[cD,erj]; rfl)
   rw[hx] at hv';cases hv';obtain⟨bj,gj,rfl,ebj⟩:=row _ _ _ avj;rw[exd];refine⟨fun R hR=>hR,?_⟩
   have tk:iC nm (y.os.take (j+1)) (rs.take (j+1))=iC nm (y.os.take j) (rs.take j)++(if y.os[j]=some nm then[(rs[j]).d] else[]):=by
    rw[b8 eoj,b8 erj];exact sW nm _ _ _ _ (by rw[iJ,iJ]; omega)
   ext;refine⟨gd,rfl,.inl ⟨_,.inl (sa _ _ eg3)⟩,Ix.tup ebj (aY (j:=0) rfl) ⟨some (d7 y.os[j]),iV.z (sa _ _ eg3) YO.nn (by rw[q1]; exact enj) (by rw[bZ]; omega) (by rw[cD,eoj]; rfl),?_⟩⟩
   have lim:(List.map V.int (iC nm (y.os.take j) (rs.take j))).length<sizeLine:=by
    have:∀(os:List (Option Str))(rs:List Rw),(iC nm os rs).length<=rs.length:=by
     intro os
     induction os with
     | nil=>intro rs; cases rs <;> simp[iC]
     | cons o os ih=>
      intro rs;cases rs with
      | nil=>simp[iC]
      | cons r rs=>
       have:=ih rs;show(if o=some nm then r.d::iC nm os rs else iC nm os rs).length<=_
       split
       ·simp only[fC]; omega
       ·simp only[fC]; omega
    have:=this (y.os.take j) (rs.take j);rw[iJ] at this;exact aR (by rw[bZ]; omega)
   rw[tk];cases eo:y.os[j] with
   | none=>
    refine⟨rfl,_,rfl,?_⟩;rw[aN (by simp[d7]),aN (by simp)]
    exact⟨∅,by rw[oX],ea,sa⟩
   | some z=>
    refine⟨rfl,_,rfl,?_⟩;by_cases hz:z=nm
    ·subst hz;rw[aV (by simp[d7]),aV rfl]
     exact Ix.tup ebj (aY (j:=2) rfl) ⟨ea,lim,∅,by rw[gk]; rfl,aB,sa.gB aa7⟩
    ·rw[aN (by simp[d7,hz]),aN (by simpa using hz)]
     exact⟨∅,by rw[oX],ea,sa⟩
  ·obtain⟨_,rfl,ea,sa⟩:=h;refine⟨acc,_,rfl,.inl ea,?_⟩;rw[lx,mV,show y.os.take rs.length=y.os by rw[show rs.length=y.os.length by omega,mV]]
   generalize (iC nm y.os rs).sum=onto at r2 ⊢;have Y4:=Y3.mono sa;refine Me.of (m:="stand") (R:=fun p=>_) Y4 (fun _ _ _ _ _ _ _=>rfl) ⟨A,y,i,nm,xU st,rfl,Y4,YO,en,by show(y.ss.map xU)[i]?=_; rw[cD,es]; rfl,fun v4 H4 s4 a4=>?_⟩
   have s34:=sa.trans s4
   obtain⟨b4,w4,rfl,e4⟩:∃b4 w4,v4=.ref b4/\H4 b4=some (.tup (.int st.w::w4)):=by
    unfold xU At at a4;obtain⟨b4,x4,rfl,e4,w,r4,rfl,h4,_⟩:=a4;unfold At at h4;subst h4;exact⟨b4,_,rfl,e4⟩
   refine Ix.tup e4 (aY (j:=0) rfl) ?_;have eb4:=s34 _ _ eb;have ew4:=s34 _ _ ew3;have ed4:H4 dc=some (.dK (gG [] (cs.map RB))):=s34 _ _ (k3 _ _ dw (s2 _ _ e1));refine kJ.of (R:=fun σ' H'=>σ'=[some (.ref A.p),some (.ref p),some (.ref gd),some (.ref pc),some (.ref wd),some (.ref dc),some (.str nm),some (.ref b),some (.int onto),some (.int st.w)]/\aJ H4 H') ?_ ?_
   rotate_left
   ·intro N hN;ext;refine⟨b,_,rfl,eb4,fun p5 H5 s5 e5=>?_⟩;rw[xG ⋯] at e5
    refine⟨dc,rfl,.inl ⟨_,.inl (s5 _ _ ed4)⟩,_,iV.k (k:=Sum.inr nm) (s5 _ _ ed4),_,onto,CdG.init CG.nd i nm en,rfl,?_⟩;rw[<- r2];refine⟨⋯,fun p6 H6 f6 s6 e6=>⟨.ref p5,.ref p6,.tuple [.str nm,.int r.c],rfl,At.tup (s6 _ _ e5) (aj.cons (by rw[<- r1]; exact At.str _) (aj.cons (At.int _) aj.nil)),At.tup e6 (aj.cons (At.str _) (aj.cons (At.int _) aj.nil)),(SD.tup (n:=1) (by show 2<=1000; decide) fun e he=>?_).mono ⋯,⋯,fun H7 s7=>⟨true,rfl,?_⟩⟩⟩
    ·simp only[bK,fD,or_false] at he;rcases he with rfl | rfl
     ·exact SD.str (YO.str (dN en))
     ·exact SD.int _
    rw[aN ⋯]
    have s47:=s5.trans (s6.trans s7);refine⟨b,_,rfl,.inr (dU.of (s47 _ _ eb4)),rfl,_,rfl,?_⟩;rw[aN (by simp)]
    exact hN _ _ ⟨rfl,s47⟩
   rintro σ' H5 ⟨rfl,s5⟩;refine kJ.of (R:=fun σ' H'=>σ'=[some (.ref A.p),some (.ref p),some (.ref gd),some (.ref pc),some (.ref wd),some (.ref dc),some (.str nm),some (.ref b),some (.int onto),some (.int st.w)]/\aJ H5 H') ?_ ?_
   rotate_left
   ·intro N hN;ext;refine⟨b,_,rfl,s5 _ _ eb4,fun p6 H6 s6 e6=>?_⟩;have ad9:qj [V.str r.n,V.int r.c,V.int r.d,V.int r.a,g] (some 2) (some 4)=[V.int r.d,V.int r.a]:=UJ (l:=2) (h:=4) ⋯ (by show 4<=5; decide)
    rw[ad9] at e6;refine⟨p6,r.d,[r.a],rfl,e6,?_⟩
    have hm:¬uK r.d [r.a]<0:=by
     have:=JQ (l:=[r.a]) (b:=r.d) (m:=0) r3 (by simpa using r4)
     omega
    rw[aN (by simpa using hm)]
    have eb6:=s6 _ _ (s5 _ _ eb4);have ew6:=s6 _ _ (s5 _ _ ew4);have ewi:(wv.map V.int)[i]?=some (.int wt):=by rw[cD,hhi i (bc _),ewt]; rfl
    refine Ix.tup eb6 (aY (j:=1) rfl) (Ix.tup eb6 (aY (j:=2) rfl) (Ix.tup eb6 (aY (j:=3) rfl) ⟨_,_,rfl,rfl,wd,.int wt,rfl,iV.z ew6 YO.nn en (by rw[bZ]; omega) ewi,_,_,rfl,rfl,rfl,_,rfl,?_⟩))
    rw[aN (by rw[r5]; simp)]
    exact hN _ _ ⟨rfl,s6⟩
   rintro σ' H6 ⟨rfl,s6⟩;ext;have ew6:=s6 _ _ (s5 _ _ ew4);refine⟨wd,_,rfl,qz.z ew6 YO.nn en (by rw[bZ]; omega) ∅,_,_,_,_,wv.set i st.w,rfl,by rw[wz]; exact aB,by rw[DW]; exact lwv,fun j hj=>?_,fun j hj=>?_,fun c u n e=>by rw[aC n]; exact s6 _ _ (s5 _ _ (s34 _ _ (k3 c u n e)))⟩
   ·rw[Eo];by_cases z:i=j
    ·subst z;rw[aV rfl,aV ∅,cD,es]; rfl
    ·rw[aN z]; exact hlo j ∅
   ·rw[Eo,aN ∅]
    exact hhi j ∅
 ·rintro σ H3 ⟨o6,o7,o8,o9,wv,rfl,ew3,lwv,hlo,_,k3⟩;ext;rw[bZ] at hlo
  have e:wv=y.ss.map gP.w:=List.ext_getElem? fun j=>by
   by_cases hj:j<y.ns.length
   ·exact hlo j hj
   ·rw[Lf ∅,Lf (by rw[bZ]; omega)]
  rw[e] at ew3;exact q H3 ew3 fun b u n h=>k3 b u n (s02 _ _ h)
structure NW(y:Yd):Prop where
 w:∀s∈y.ss,0<=s.w
 t:y.tot<=60
structure RwB(r:Rw):Prop where
 c:0<=r.c/\r.c<=2000000000000
 d:0<=r.d/\r.d<=60000000
 a:0<=r.a/\r.a<=2000000000000
 h:-100<=r.h/\r.h<=100
theorem NB{x:fU}{st:gP}{ch:Int}:(gA x st ch).w=st.w:=by
 unfold gA;split
 ·rfl
 ·split <;> rfl
theorem R3{x:fU}{st:gP}{c:Int}(hc:0<=c):0<=cY x st c/\cY x st c<=c:=by
 unfold cY;split <;> split <;> omega
theorem XQ{ss:List gP}{s:gP}(h:∀z∈ss,M9 z)(hs:s∈ss):hnd s<=hands ss:=by
 induction ss with
 | nil=>simp at hs
 | cons z zs ih=>
  have hz:=Ce (h z (eX ..))
  have hr:0<=hands zs:=rQ _ fun q hq=>by
   obtain⟨s',hs',rfl⟩:=d9.mp hq;exact Ce (h s' (dX _ hs'))
  show hnd s<=hnd z+hands zs;rcases bK.mp hs with rfl | h'
  ·omega
  ·have:=ih (fun z hz=>h z (dX _ hz)) h'; omega
theorem O8{st:gP}(h:M9 st):0<=eO st/\eO st<=hnd st:=by
 have h1:=h.r;have h2:=h.cn;unfold eO hnd;cases e:st.cs with
 | nil=>have:=h.c; rw[e] at this; simp at this
 | cons z zs=>
  rw[e] at h2;have hz:=h2 z (eX ..);have:=rQ zs fun q hq=>h2 q (dX _ hq);simp only[List.getD_cons_zero,sG];omega
theorem adb{y:Yd}{i:Nat}{c:Int}(YO:fK y)(N:NW y)(hi:i<y.ns.length)(hc:0<=c)(hc2:c<=2000000000000):RwB (sV y i c)/\NW (Ng y i c):=by
 have l1:=YO.lp;have l2:=YO.ls;have es:y.ss[i]?=some y.ss[i]:=cN ∅
 have e1:k_ y i=y.ss[i]:=by unfold k_; rw[iI,es]; rfl
 have e2:lN y i=y.ps[i]:=by unfold lN; rw[iI,cN (by omega:i<y.ps.length)]; rfl
 have m1:k_ y i∈y.ss:=by rw[e1]; exact sH _
 have m2:lN y i∈y.ps:=by rw[e2]; exact sH _
 have X:=Qh (x:=lN y i) (st:=k_ y i) (c:=c) (YO.pg _ m2) (YO.sg _ m1) (J9 YO);have hw:=N.w _ m1;have ht:=N.t;have hh:=XQ YO.sg m1;have hh2:=YO.hs;have h0:=Ce (YO.sg _ m1);obtain⟨r0,r1⟩:=O8 (YO.sg _ m1);obtain⟨t0,t1⟩:=R3 (x:=lN y i) (st:=k_ y i) hc;have p1:=(YO.pg _ m2).p
 have hr:0<=eO (k_ y i)*(lN y i).p/\eO (k_ y i)*(lN y i).p<=60000000:=by
  refine⟨Int.mul_nonneg r0 ∅,?_⟩
  calc eO (k_ y i)*(lN y i).p<=60*1000000:=Int.mul_le_mul ∅ p1.2 ∅ ⋯
   _=60000000:=by decide
 have hd:0<=gJ (lN y i) (k_ y i) c/\gJ (lN y i) (k_ y i) c<=60000000/\gJ (lN y i) (k_ y i) c<=(k_ y i).w+cY (lN y i) (k_ y i) c:=by
  unfold gJ;generalize eO (k_ y i)*(lN y i).p=g at hr;generalize cY (lN y i) (k_ y i) c=t at t0 t1;split <;> omega
 refine⟨⟨⟨hc,hc2⟩,⟨hd.1,hd.2.1⟩,⟨by show 0<=c-cY _ _ c; omega,by show c-cY _ _ c<=_; omega⟩,?_⟩,⟨fun s hs=>?_,ht⟩⟩
 ·have h1:=X.h;have h2:=Ce X.s;have h3:=X.l;have hf:lq y<=12:=by unfold lq; split <;> omega
  show -100<=xM (lN y i) (k_ y i) c (lq y)/\xM (lN y i) (k_ y i) c (lq y)<=100;omega
 ·rcases Pg hs with h | h
  ·exact N.w s h
  ·rw[h];show 0<=(gA _ (jw _ _ c) _).w;rw[NB];show 0<=(k_ y i).w+cY _ _ c-gJ _ _ c;omega
structure aeH(y:Yd)(cm:List Int)(i:Nat):Prop where
 b:∀r∈(aZ y cm i).2.2,RwB r
 n:NW (aZ y cm i).1
 c:∀c∈(aZ y cm i).2.1,0<=c/\c<=1000000000000+i*60000000
 t:∀j t,y.ts[j]?=some t->∃t',(aZ y cm i).1.ts[j]?=some t'/\(i<=j->t'=t)/\∀r,(aZ y cm i).2.2[j]?=some r->t'=U8 t r.c r.d r.a
 l:(aZ y cm i).2.2.length=i
theorem VD{y:Yd}{cm:List Int}(YO:fK y)(N:NW y)(hcm:∀c∈cm,0<=c/\c<=1000000000000):∀i,i<=y.ns.length->aeH y cm i
 | 0,_=>⟨fun r h=>by simp[aZ] at h,N,fun c h=>by have:=hcm c h; omega,fun j t h=>⟨t,h,fun _=>rfl,fun r hr=>by simp[aZ] at hr⟩,rfl⟩
 | i+1,h=>by
  have ih:=VD YO N hcm i (zL h);have F:=dJ y cm i;have YI:=oE (cm:=cm) YO (zL h);have n5:=YO.n5;obtain⟨c,ec⟩:∃c,(aZ y cm i).2.1.getD i 0=c:=⟨_,rfl⟩
  have hc:0<=c/\c<=1000000000000+i*60000000:=by
   rw[<- ec,iI];cases e:(aZ y cm i).2.1[i]? with
   | none=>show 0<=(0:Int)/\(0:Int)<=_; omega
   | some v=>exact ih.c v (dN e)
  obtain⟨P1,P2⟩:=adb (i:=i) (c:=c) YI ih.n (by rw[F.n]; omega) hc.1 ∅
  have e1:(aZ y cm (i+1)).1=Ng (aZ y cm i).1 i c:=by show Ng _ _ ((aZ y cm i).2.1.getD i 0)=_; rw[ec]
  have e3:(aZ y cm (i+1)).2.2=(aZ y cm i).2.2++[sV (aZ y cm i).1 i c]:=by show _++[sV _ _ ((aZ y cm i).2.1.getD i 0)]=_; rw[ec]
  refine⟨fun r hr=>?_,by rw[e1]; exact P2,fun v hv=>?_,fun j t ht=>?_,by rw[e3,cF,ih.l]; rfl⟩
  ·rw[e3] at hr;rcases gm.mp hr with h | h
   ·exact ih.b r h
   ·rw[dM.mp h]; exact P1
  ·have e2:(aZ y cm (i+1)).2.1=match (aZ y cm i).1.os.getD i none with
     | none=>(aZ y cm i).2.1
     | some o=>(aZ y cm i).2.1.set ((aZ y cm i).1.ns.idxOf o) ((aZ y cm i).2.1.getD ((aZ y cm i).1.ns.idxOf o) 0+(sV (aZ y cm i).1 i c).d):=by
    rw[<- ec]; rfl
   rw[e2] at hv;have hd:=P1.d;split at hv
   ·have:=ih.c v hv; omega
   ·rename_i o _;rcases Pg hv with h | h
    ·have:=ih.c v h; omega
    ·rw[h,iI];cases e:(aZ y cm i).2.1[(aZ y cm i).1.ns.idxOf o]? with
     | none=>show 0<=(0:Int)+_/\(0:Int)+_<=_; omega
     | some u=>
      have:=ih.c u (dN e);show 0<=u+_/\u+_<=_;omega
  ·obtain⟨t',g1,g2,g3⟩:=ih.t j t ht;rw[e1,e3];by_cases hj:i=j
   ·subst hj;have gt:Tt (aZ y cm i).1 i=t:=by unfold Tt; rw[iI,g1,g2 (bc _)]; rfl
    refine⟨U8 t c (sV (aZ y cm i).1 i c).d (sV (aZ y cm i).1 i c).a,?_,fun z=>by omega,fun r hr=>?_⟩
    ·show((aZ y cm i).1.ts.set i _)[i]?=_;rw[Pb (iW.mp g1).1,gt]
    ·rw[uy (by rw[ih.l]; exact bc _),ih.l,wA] at hr
     cases hr;rfl
   ·refine⟨t',?_,fun z=>g2 ∅,fun r hr=>?_⟩
    ·show((aZ y cm i).1.ts.set i _)[j]?=_;rw[Le hj]; exact g1
    ·by_cases hl:j<i
     ·rw[yd (by rw[ih.l]; exact hl)] at hr
      exact g3 r hr
     ·rw[Lf (by rw[cF,ih.l]; simp; omega)] at hr
      cases hr
structure aeG(y:Yd)(cm:List Int)(i:Nat):Prop where
 s:∀j:Nat,i<=j->(aZ y cm i).1.ss[j]?=y.ss[j]?
 c:∀(j:Nat) nm,i<=j->y.ns[j]?=some nm->(aZ y cm i).2.1.getD j 0=cm.getD j 0+(iC nm (y.os.take i) (aZ y cm i).2.2).sum
 r:∀(j:Nat) r nm s s',(aZ y cm i).2.2[j]?=some r->y.ns[j]?=some nm->y.ss[j]?=some s->(aZ y cm i).1.ss[j]?=some s'->r.n=nm/\r.c=r.d+r.a+s'.w-s.w/\r.c=cm.getD j 0+(iC nm (y.os.take i) (aZ y cm i).2.2).sum
theorem Ja(a b:List Int):(a++b).sum=a.sum+b.sum:=by
 induction a with
 | nil=>simp
 | cons x a ih=>simp only[List.cons_append,sG,ih]; omega
theorem Vz{y:Yd}{cm:List Int}(YO:fK y)(hcm:cm.length=y.ns.length):∀i,i<=y.ns.length->aeG y cm i
 | 0,_=>⟨fun _ _=>rfl,fun j nm _ _=>by simp[aZ,iC],fun j r nm s s' h=>by simp[aZ] at h⟩
 | i+1,h=>by
  have ih:=Vz YO hcm i (zL h);have F:=dJ y cm i;have lo:=YO.lo;have ls:=YO.ls;obtain⟨nmi,eni⟩:∃nm,y.ns[i]?=some nm:=⟨_,cN ∅⟩
  obtain⟨si,esi⟩:∃s,y.ss[i]?=some s:=⟨_,cN ∅⟩
  obtain⟨oi,eoi⟩:∃o,y.os[i]?=some o:=⟨_,cN ∅⟩
  obtain⟨c,ec⟩:∃c,(aZ y cm i).2.1.getD i 0=c:=⟨_,rfl⟩;have e1:(aZ y cm (i+1)).1=Ng (aZ y cm i).1 i c:=by show Ng _ _ ((aZ y cm i).2.1.getD i 0)=_; rw[ec]
  have e3:(aZ y cm (i+1)).2.2=(aZ y cm i).2.2++[sV (aZ y cm i).1 i c]:=by show _++[sV _ _ ((aZ y cm i).2.1.getD i 0)]=_; rw[ec]
  have g:(aZ y cm i).1.os.getD i none=oi:=by rw[F.o,iI,eoi]; rfl
  have e2:(aZ y cm (i+1)).2.1=match (aZ y cm i).1.os.getD i none with
    | none=>(aZ y cm i).2.1
    | some o=>(aZ y cm i).2.1.set ((aZ y cm i).1.ns.idxOf o) ((aZ y cm i).2.1.getD ((aZ y cm i).1.ns.idxOf o) 0+(sV (aZ y cm i).1 i c).d):=by
   rw[<- ec]; rfl
  rw[g,F.n] at e2;have sI:(aZ y cm i).1.ss[i]?=some si:=by rw[ih.s i (bc _)]; exact esi
  have pS:k_ (aZ y cm i).1 i=si:=by unfold k_; rw[iI,sI]; rfl
  have lsR:(aZ y cm i).1.ss.length=y.ns.length:=by
   have:=(oE (cm:=cm) YO (i:=i) (zL h)).ls;rw[this,F.n]
  have tko:∀nm,iC nm (y.os.take (i+1)) ((aZ y cm i).2.2++[sV (aZ y cm i).1 i c])=iC nm (y.os.take i) (aZ y cm i).2.2++(if oi=some nm then[(sV (aZ y cm i).1 i c).d] else[]):=fun nm=>by
   rw[b8 eoi];exact sW nm _ _ _ _ (by rw[iJ,F.r]; omega)
  have behind:∀(j:Nat) nm,j<=i->y.ns[j]?=some nm->¬oi=some nm:=fun j nm hj en z=>by
   have h1:=YO.og i nm (by rw[eoi,z])
   obtain⟨k,hk⟩:=List.mem_iff_getElem?.mp h1;rw[zM] at hk;have:=qW YO.nn en hk;omega
  have hci:c=cm.getD i 0+(iC nmi (y.os.take i) (aZ y cm i).2.2).sum:=by rw[<- ec]; exact ih.c i nmi (bc _) eni
  refine⟨fun j hj=>?_,fun j nm hj en=>?_,fun j r nm s s' hr en es es'=>?_⟩
  ·rw[e1];show((aZ y cm i).1.ss.set i _)[j]?=_;rw[Le ∅]
   exact ih.s j ∅
  ·rw[e2,e3,tko,Ja];have old:=ih.c j nm ∅ en
   cases oi with
   | none=>simp only[reduceCtorEq,if_false,Eb]; omega
   | some o=>
    dsimp only;have ho:o∈y.ns:=Ea (YO.og i o eoi)
    have hio:y.ns[y.ns.idxOf o]?=some o:=by
     rw[cN (JB ho)];exact lJ some (List.getElem_idxOf (JB ho))
    have hl:y.ns.idxOf o<(aZ y cm i).2.1.length:=by rw[F.l,hcm]; exact JB ho
    by_cases z:y.ns.idxOf o=j
    ·subst z;rw[hio] at en;cases en;rw[aV rfl,iI,Pb hl];simp only[sG,Eb,Option.getD_some];omega
    ·have ne:¬some o=some nm:=fun e=>by
      cases e;exact z (qW YO.nn hio en)
     rw[aN ne,iI,Le z,<- iI];simp only[Eb];omega
  ·rw[e3] at hr ⊢;rw[e1] at es';rw[tko,Ja];by_cases hji:j<i
   ·rw[yd (by rw[F.r]; exact hji)] at hr
    replace es':((aZ y cm i).1.ss.set i _)[j]?=some s':=es'
    rw[Le ∅] at es'
    obtain⟨q1,q2,q3⟩:=ih.r j r nm s s' hr en es es';rw[aN (behind j nm ∅ en)]
    exact⟨q1,q2,by simp only[Eb]; omega⟩
   ·have hj:j=i:=by
     have:=(iW.mp hr).1;rw[cF,F.r] at this;simp at this;omega
    subst hj;rw[uy (by rw[F.r]; exact bc _),F.r,wA] at hr
    cases hr;rw[eni] at en;cases en;rw[esi] at es;cases es
    replace es':((aZ y cm j).1.ss.set j (Xg (aZ y cm j).1 j c))[j]?=some s':=es'
    rw[Pb ∅] at es'
    cases es';rw[aN (behind j nmi (bc _) eni)];refine⟨?_,?_,by simp only[Eb]; show c=_; omega⟩
    ·show(aZ y cm j).1.ns.getD j "" = nmi;rw[F.n,iI,eni]; rfl
    ·have w1:(Xg (aZ y cm j).1 j c).w=si.w+cY (lN (aZ y cm j).1 j) si c-gJ (lN (aZ y cm j).1 j) si c:=by
      unfold Xg;rw[NB,pS];rfl
     rw[w1];show c=gJ (lN (aZ y cm j).1 j) (k_ (aZ y cm j).1 j) c+(c-cY (lN (aZ y cm j).1 j) (k_ (aZ y cm j).1 j) c)+_-_;rw[pS];omega
def RwG(ns:List Str)(r:Rw):Prop:=RwB r/\r.n∈ns
structure LnG(ns:List Str)(rs:List Rw):Prop where
 l:rs.length=ns.length
 g:∀r∈rs,RwG ns r
def dY(f:Rw->Int)(pa:List (List Rw))(j:Nat):Int:=(pa.map fun rs=>((rs[j]?).map f).getD 0).sum
theorem tE{f:Rw->Int}{pa:List (List Rw)}{rs:List Rw}{j:Nat}{r:Rw}(h:rs[j]?=some r):dY f (pa++[rs]) j=dY f pa j+f r:=by
 unfold dY;rw[gk,List.sum_append];simp[h]
structure Yo(y:Yd):Prop where
 nw:NW y
 ln:∀rs∈y.pa,LnG y.ns rs
 sm:∀j t,y.ts[j]?=some t->t=[dY Rw.c y.pa j,dY Rw.d y.pa j,dY Rw.a y.pa j]
theorem lookup_mem{cs:List (Str×Int)}{n:Str}{c:Int}(h:cs.lookup n=some c):(n,c)∈cs:=by
 induction cs with
 | nil=>simp at h
 | cons q cs ih=>
  obtain⟨m,v⟩:=q;rw[j5] at h;by_cases e:n=m
  ·subst e;rw[beq_self_eq_true] at h;cases h;exact eX ..
  ·rw[beq_false_of_ne e] at h;exact dX _ (ih h)
theorem aet{ns:List Str}{cs:List (Str×Int)}(h:∀q∈cs,0<=q.2/\q.2<=1000000000000):∀c∈ql ns cs,0<=c/\c<=1000000000000:=fun c hc=>by
 obtain⟨n,_,rfl⟩:=d9.mp hc;cases e:cs.lookup n with
 | none=>exact⟨⋯,⋯⟩
 | some v=>exact h _ (lookup_mem e)
theorem Yo.aex{y:Yd}{cs:List (Str×Int)}(YO:fK y)(h:Yo y)(hc:∀q∈cs,0<=q.2/\q.2<=1000000000000):Yo (CV y cs)/\LnG y.ns (yJ y cs):=by
 have R:=VD YO h.nw (aet (ns:=y.ns) hc) y.ns.length (bc _);have F:=dJ y (ql y.ns cs) y.ns.length;have L:LnG y.ns (yJ y cs):=⟨R.l,fun r hr=>⟨R.b r hr,aew r hr⟩⟩;refine⟨⟨⟨R.n.w,R.n.t⟩,fun rs hrs=>?_,fun j t ht=>?_⟩,L⟩
 ·show LnG (aZ y (ql y.ns cs) y.ns.length).1.ns rs;rw[F.n];rcases gm.mp (show rs∈y.pa++[yJ y cs] from hrs) with h' | h'
  ·exact h.ln rs h'
  ·rw[dM.mp h']; exact L
 ·replace ht:(aZ y (ql y.ns cs) y.ns.length).1.ts[j]?=some t:=ht
  have YR:=oE (cm:=ql y.ns cs) YO (bc _)
  have hj:j<y.ns.length:=by
   have:=(iW.mp ht).1;rw[YR.lt,F.n] at this; exact this
  have l3:=YO.lt;have e0:y.ts[j]?=some y.ts[j]:=cN ∅
  obtain⟨t',g1,_,g3⟩:=R.t j _ e0;rw[ht] at g1;cases g1;have lr:=R.l;have lb:j<(yJ y cs).length:=by show j<(aZ y (ql y.ns cs) y.ns.length).2.2.length; omega
  have er:(yJ y cs)[j]?=some (yJ y cs)[j]:=cN lb;have e1:=g3 _ er;have e2:=h.sm j _ e0;show t=[dY Rw.c (y.pa++[yJ y cs]) j,dY Rw.d (y.pa++[yJ y cs]) j,dY Rw.a (y.pa++[yJ y cs]) j];rw[tE er,tE er,tE er,e1,e2];rfl
theorem TV{H:Hp}{o:Option Str}{v:V}(h:At H (zR o) v):v=d7 o:=by
 cases o with
 | none=>unfold zR At at h; exact h
 | some z=>unfold zR At at h; exact h
theorem pairs_at{α:Type}{H:Hp}{D:α->PyData}{Vl:α->V}{N:α->Str}(hD:∀o v,At H (D o) v->v=Vl o){l:List α}{xs:List V}(a:aj H (l.map fun q=>PyData.tuple [.str (N q),D q]) xs):C_ H xs (l.map fun q=>((Sum.inr (N q):Key),Vl q)):=by
 have la:=a.length;refine⟨by rw[bZ] at la ⊢; exact la,fun i x q hx hq=>?_⟩
 obtain⟨d,hd,ad⟩:=a.get hx;rw[cD] at hd hq;cases e:l[i]? with
 | none=>rw[e] at hd; cases hd
 | some z=>
  rw[e] at hd hq;cases hd;cases hq;unfold At at ad;obtain⟨b,ys,rfl,eb,_,_,rfl,h1,_,_,rfl,h2,h3⟩:=ad;subst h3;unfold At at h1;subst h1;rw[hD _ _ h2] at eb;exact⟨b,rfl,eb⟩
theorem t_{α:Type}{N:α->Str}{Vl:α->V}{l:List α}(nn:(l.map N).Nodup):gG [] (l.map fun q=>((Sum.inr (N q):Key),Vl q))=zK (l.map N) (l.map Vl):=by
 have h:=vo (l.map N) (l.map Vl) [] [] (by simpa using nn) rfl (by simp)
 have e:zK (l.map N) (l.map Vl)=l.map fun q=>((Sum.inr (N q):Key),Vl q):=by
  unfold zK;rw[uv,List.zip_map'];rfl
 rw[Bf,Bf,e] at h;rw[e];exact h
theorem WD.abn{C a:Addr}{H0 H':Hp}{m:Nat}{ls:List (Addr×List V)}{A:Ya}{y:Yd}(W:WD C a H0 m [(A,y)] ls H'){lc:Addr}{us:List V}{cs:List (Str×Int)}{Q:VK}{E:XK}(hl:(lc,us)∈ls)(ac:aj H' (cs.map UL) us)(G:CmG y.ns cs)(hp:y.pa.length<500)
  (q:∀p mm xs H2,WD C a H0 m [({ A with uV:=A.uV++[mm] },CV y cs)] ((p,xs)::ls) H2->aj H2 ((yJ y cs).map sy) xs->dW H' H2->H' p=none->H' mm=none->Fr A.own H' H2->Q (.ref p) H2):Ws C [.ref A.p,.ref lc] H' Q E:=by
 have hz:(A,y)∈[(A,y)]:=dM.mpr rfl;have YO:=W.yo _ hz;refine⟨A,y,lc,us,cs,rfl,W.ys.at_ _ hz,YO,(W.lo _ hl).2.2,ac,G.nd,G.ni,hp,fun h=>(W.fo _ hz _ h).2.2 _ hl rfl,fun p mm xs H2 fm fp pm Y2 e2 a2 f2=>?_⟩
 have inS:∀b∈[A.ds,A.dt,A.lp],b∈A.own:=fun b hb=>by
  unfold Ya.own;simp only[bK,fD,or_false] at hb;rcases hb with rfl | rfl | rfl <;> simp
 have W2:=W.Zy (i:=0) rfl Y2 (Yh YO hp) f2 inS fun c hc=>by
  unfold Ya.own at hc ⊢;simp only[gm,dM] at hc ⊢;rcases hc with h | h | h
  ·exact .inl (.inl h)
  ·exact .inl (.inr h)
  ·rw[h]; exact .inr fm
 obtain⟨g1,g2,g3,g4⟩:=W.free fp
 have po:∀z∈[({ A with uV:=A.uV++[mm] },CV y cs)],p∉z.1.own:=fun z hz' hc=>by
  rw[dM.mp hz'] at hc;unfold Ya.own at hc;simp only[gm,dM] at hc;rcases hc with h | h | h
  ·exact g4 _ hz (by unfold Ya.own; exact Es _ h)
  ·exact g4 _ hz (by unfold Ya.own; exact iM _ h)
  ·exact pm h
 exact q p mm xs H2 (WD.mem W2 g1 g2 po e2) a2 (W.kp f2 fun b hb=>.inr ⟨_,hz,inS b hb⟩) fp fm (f2.sub fun b hb=>.inl (inS b hb))
theorem EY{A:Ya}{mm b:Addr}(h:b∉A.own)(n:b≠mm):b∉({ A with uV:=A.uV++[mm] }:Ya).own:=fun hc=>by
 unfold Ya.own at hc h;simp only[gm,dM] at hc h;rcases hc with z | z | z
 ·exact h (.inl z)
 ·exact h (.inr z)
 ·exact n z
theorem RJ.mv{a:Addr}{H0 H' cQ:Hp}{A A':Ya}{gd:Addr}{kvs:List (Key×V)}(D:RJ a H0 A gd kvs H')(f:cQ gd=some (.dK kvs))(o:gd∉A'.own):RJ a H0 A' gd kvs cQ:=⟨f,D.f,D.a,o⟩
structure GW(C a:Addr)(H0:Hp)(m:Nat)(A:Ya)(y:Yd)(gd wd ln:Addr)(ms:List Addr)(ls:List (Addr×List V))(H':Hp):Prop where
 W:WD C a H0 m [(A,y)] ls H'
 g:RJ a H0 A gd (zK y.ns (y.os.map d7)) H'
 w:RJ a H0 A wd (zK y.ns ((y.ss.map gP.w).map .int)) H'
 gw:gd≠wd
 l:(ln,ms.map V.ref)∈ls
 ml:ms.length=y.pa.length
 p:∀(k:Nat) m rs,ms[k]?=some m->y.pa[k]?=some rs->m≠ln/\∃xs,(m,xs)∈ls/\aj H' (rs.map sy) xs
theorem Q5{K:Frag}{nt:Nat}{g:TG}{js:List Nat}{xs:List V}{tl te:TE}{σ:St}{H:Hp}{Q:VK}(τ:Nat->St)(hτ:∀i,(τ i).length=nt)(hl:∀R:VK,(∀a H1,aJ H H1->H1 a=some (.tup xs)->R (.ref a) H1)->tl σ H R)
  (h:∀H1 acc,aJ H H1->H1 acc=none->∃Pv:Nat->List V->Hp->Prop,Pv 0 [] (upd H1 acc (.lst []))/\(∀i ys H',Pv i ys H'->aJ H1 H') /\
   (∀i x ys H',xs[i]?=some x->Pv i ys H'->(∀R:St->Hp->Prop,R (τ i++bW js σ) H'->g x (List.replicate nt none++bW js σ) H' R)/\te (τ i++bW js σ) H' fun y H4=>H4 acc=some (.lst ys)/\ys.length<sizeLine/\Pv (i+1) (ys++[y]) (upd H4 acc (.lst (ys++[y]))))/\∀ys H',Pv xs.length ys H'->Q (.ref acc) H'):eN nt js (Ft K tl) g qG te σ H Q:=
 hl _ fun a H1 s1 e1=>Q4 (tl:=fun _ H R=>R (.ref a) H) τ hτ (fun _ hR=>hR) e1 fun acc f=>by
  obtain⟨Pv,p0,p1,p2,p3⟩:=h H1 acc s1 f;exact⟨Pv,p0,fun i ys H' hp=>p1 i ys H' hp _ _ e1,p2,p3⟩
theorem wY{H:Hp}{ls:List (Addr×List V)}{ln:Addr}(lo:∀l∈ls,H l.1=some (.lst l.2)):∀{ms:List Addr}{pa:List (List Rw)},ms.length=pa.length->(∀(k:Nat) m rs,ms[k]?=some m->pa[k]?=some rs->m≠ln/\∃xs,(m,xs)∈ls/\aj H (rs.map sy) xs)->aj H (pa.map VM) (ms.map V.ref)
 | [],[],_,_=>aj.nil
 | [],_::_,h,_=>by cases h
 | _::_,[],h,_=>by cases h
 | m::ms,rs::pa,h,hp=>aj.cons (by
   obtain⟨_,xs,h1,h2⟩:=hp 0 m rs rfl rfl
   exact At.lst (lo _ h1) h2) (wY lo (Nat.succ.inj h) fun k m rs h1 h2=>hp (k+1) m rs h1 h2)
def Z5:Sp:=fun vs H Q _=>∃(a:Addr)(n:Nat),vs=[.ref a]/\Tp H a n/\n<=1000000/\∀H' m,Tp H' a m->SX a H H'->Q (.bl true) H'
theorem tU:aX ["_law_tape_here","_law_rows_here","_law_least","_law_total","_law_yard","_law_lines","_law_goals","_law_waits","_law_turn","_law_comes_here","_law_k","_law_name","_law_due"] AM (aG pQ):=(by walk_at "c")
theorem Fe{C:Addr}(F:i_ K "_law_walked" "_law_walked" pQ f fd)(B:Bi mg)(Z:ZY K C)(aK:Ct P w K mg base k "_law_draw" AL gC)(Ra:Ct P w K mg base k "_law_rows" AM Z6)(U4:Ct P w K mg base k "_law_led" AZ (Vt C))(MT:Ct P w K mg base k "_law_comes" AX Z9)(xQ:Ct P w K mg base k "_law_line_right" Ap (Z8 C))(iH:Ct P w K mg base k "_law_same" AY (GD 6))(H_:Yy P w K mg base k C "Yard" AT (Gz C))(l_:Df P w K mg base k C "beat" ["self","comes"] (Ws C))(lZ:Df P w K mg base k C "told" ["self"] (Vr C))(jG:Df P w K mg base k C "counts" AV (vJ C gT)):bH P w K mg base ig (k+1) f fd AM Z5:=by
 refine F.ok tU (hbody:=(0:))
 obtain⟨a,n,rfl,tp,hn,q⟩:=h;have ND:=tU.nd;refine⟨_,(aq (aU (i:=1) (pf Ra hr (ao (pv 0) ak))) (aq (aU (i:=2) (pb (fZ rfl) B.sum n_ (ao (iz (nt:=3) (N':=["_law_name","_law_post_here","_law_onward"]) (js:=[]) rfl (bV (K:=K) rfl (pv 1)) pF.of (fun fp s' H'=>(bQ (K:=K) (n:=3) rfl rfl (aD (aFN As 0) (aD (aFN As 1) (aD (aFN As 2) bO))))) (fun fp s' H'=>gH) (fun fp s' H'=>(bx bh (bx bh (pv 1) aA (fun _ _=>rfl)) aA (fun _ _=>rfl)))) ak))) (aq (aU (i:=3) (pb (gb rfl) B.min mq (ao aA (ao (aO bA (pv 2) (pf aK hr (ao (pv 0) (ao aA ak)))) ak)))) (aq (dF (bw (ao (pkd H_ hr (ao (pv 3) (ao (pt (oU) B.list fP (ao (pv 1) ak)) ak))) (ao (cG ak) ak))) (bQ (K:=K) (n:=2) rfl rfl (aD (aF (i:=4)) (aD (aF (i:=5)) bO)))) (aq (aU (i:=6) (pt (qp hr.units rfl) B.dict vm (ao (iz (nt:=3) (N':=["_law_name","_law_post_here","_law_onward"]) (js:=[]) rfl (bV (K:=K) rfl (pv 1)) pF.of (fun fp s' H'=>(bQ (K:=K) (n:=3) rfl rfl (aD (aFN As 0) (aD (aFN As 1) (aD (aFN As 2) bO))))) (fun fp s' H'=>gH) (fun fp s' H'=>(bw (ao (pv 0) (ao (pv 2) ak))))) ak))) (aq (aU (i:=7) (pt (qp hr.units rfl) B.dict vm (ao (JG (dH (N':=["_law_name"]) (js:=[]) rfl (Ti (K:=K) rfl (pv 6)) uq.Xp rfl ⋯ rfl (fun fp s' H'=>(bw (ao (pv 0) (ao aA ak)))))) ak))) (aq (iQ PassesOwn.never rfl (gW (by rfl) B.range (ao aA ak)) (aF (i:=8)) (aq (cM (PW.pt (Bl (bu iB (pf aK hr (ao (pv 0) (ao aA ak))) aA (bf _)) (uU (jo (dD (pf U4 hr (ao (pv 0) (ao (pv 4) (ao (pv 6) ak))))))))) (aH (a_ jr)) bF) (aq (aU (i:=9) (pf MT hr (ao (pv 0) (ao (pt ((tG rfl)) B.list fP (ao (pv 6) ak)) ak)))) (aq (cT (gY (K:=K) rfl PySem.F.plainAttrs_list PySem.F.slot_list_append PySem.F.type_list_append fX (pv 5) (ao (pm l_ hr (pv 4) (ao (pt (oU) B.list fP (ao (pv 9) ak)) ak)) ak))) (aH (cM (jo (dD (pf xQ hr (ao (pv 4) (ao (bx bh (pv 5) (VH NP aA) (fun _ _=>rfl)) (ao (pv 6) (ao (pv 9) (ao (pv 7) ak)))))))) (aH (a_ jr)) bF)))))) (aq (S6 (iQ PassesOwn.never rfl (PB B.enumerate (ao (pv 6) ak)) (bQ (K:=K) (n:=2) rfl rfl (aD (aF (i:=10)) (aD (aF (i:=11)) bO))) (aq (aU (i:=12) (pt (oO) B.tuple jH (ao (Ez (nt:=1) (N':=["_law_place","_law_lines","_law_k"]) (js:=[5,10]) rfl (uW (K:=K) rfl (bw (ao aA (ao aA (ao aA ak))))) qC.of (fun fp s' H'=>(aF (i:=0) (by show List.Nodup (["_law_place","_law_lines","_law_k"]:List Str); decide) rfl (.inr (iT rfl)) (.inl rfl))) (fun fp s' H'=>gH) (fun fp s' H'=>(pb (fZ rfl) B.sum n_ (ao (dH (N':=["_law_line","_law_k","_law_place"]) (js:=[2,0]) rfl (bV (K:=K) rfl (pv 1)) uq.mk2 rfl ⋯ rfl (fun fp s' H'=>(bx bh (bx bh (pv 0) (pv 1) (fun _ _=>rfl)) (pv 2) (fun _ _=>rfl)))) ak)))) ak))) (aH (cM (jo (dD (pf iH hr (ao (pm jG hr (pv 4) (ao (pv 11) ak)) (ao (pv 12) ak))))) (aH (a_ jr)) bF))))) (aH (a_ (pf iH hr (ao (pm0 lZ hr (pv 4)) (ao (pv 5) ak))))))))))))),?_⟩
 refine vM (fun σ H1=>∃(pr:Addr)(ts:List T3)(us:List V),σ=[some (.ref a),some (.ref pr),none,none,none,none,none,none,none,none,none,none,none]/\WD C a H (n+3000) [] [(pr,us)] H1/\aj H1 (ts.map I_) us/\2<=ts.length/\(∀t,((ts.map (·.2.1)).map fU.lo).sum<=t->Ig t ts)/\∀x∈ts,Ge x.2.1) ?_ ?_
 rotate_left
 ·intro N hN;ext;refine⟨a,n,rfl,tp,∅,fun pr ts us H1 f1 pa e1 a1 l2 T hps t1 x1=>?_⟩
  have W0:WD C a H (n+3000) [] [] H1:=⟨⟨by simp,by simp⟩,by simp,by simp,by simp,t1,x1⟩
  exact hN _ _ ⟨pr,ts,us,rfl,W0.mem f1 pa (by simp) e1,a1,l2,T,hps⟩
 rintro σ H1 ⟨pr,ts,us,rfl,W1,a1,l2,T,hps⟩;have lu:=a1.length;rw[bZ] at lu;have l5:ts.length<=5:=(T _ (zp _)).n5
 have Xv:∀(l:List T3),(∀x∈l,Ge x.2.1)->0<=((l.map (·.2.1)).map fU.lo).sum/\((l.map (·.2.1)).map fU.lo).sum<=12*l.length:=by
  intro l
  induction l with
  | nil=>intro _; simp
  | cons x l ih=>
   intro hl;obtain⟨i1,i2⟩:=ih fun z hz=>hl z (dX _ hz);have hx:=hl x (eX ..);have:=hx.lo;have:=hx.hi;simp only[jk,sG,fC];omega
 obtain⟨b1,b2⟩:=Xv ts hps;refine vM (fun σ H2=>σ=[some (.ref a),some (.ref pr),some (.int ((ts.map (·.2.1)).map fU.lo).sum),none,none,none,none,none,none,none,none,none,none]/\aJ H1 H2) ?_ ?_
 rotate_left
 ·intro N hN;ext;have e1:H1 pr=some (.lst us):=(W1.lo (pr,us) (by simp)).2.2
  obtain⟨kI,TA⟩:=vG a1;refine lW (((ts.map (·.2.1)).map fU.lo).map .int) (qF ts kI) (ir ts kI) (fun R hR=>by ext; exact hR) e1 (by simp; omega) ∅ (iD _) ?_ ?_
  ·intro j x d' H' hx hd s';have TB:=TA.mono s'.kp;refine⟨fun R hR=>uc TB hx hR,fun R hR=>?_⟩;have hj:j<ts.length:=by rw[<- lu]; exact(iW.mp hx).1
   have et:ts[j]?=some ts[j]:=cN hj;obtain⟨vp,ev,av⟩:=TB.ap.nth (i:=j) (d:=jq ts[j].2.1) (by rw[cD,cD,et]; rfl)
   rw[cD,cD,cD,et] at hd;cases hd;rw[g_ et];ext;rw[iI,ev];obtain⟨pa,pb,pc,pd,rfl,h1,h2,_,_⟩:=Pr av;exact Ix.tup h1 (aY (j:=2) rfl) (Ix.tup h2 (aY (j:=0) rfl) (hR _ _ (aJ.refl _) (At.int _)))
  ·intro acc ns H6 f6 s6 e6 a6;have:=cX a6;subst this;exact⟨acc,_,rfl,.inl e6,hN _ _ ⟨rfl,s6⟩⟩
 rintro σ H2 ⟨rfl,s2⟩;have W2:=W1.grow s2;have a2:=a1.mono s2;clear W1 a1;refine vM (fun σ H3=>∃tot,σ=[some (.ref a),some (.ref pr),some (.int ((ts.map (·.2.1)).map fU.lo).sum),some (.int tot),none,none,none,none,none,none,none,none,none]/\Ig tot ts/\tot<=60/\WD C a H (n+3001) [] [(pr,us)] H3/\aj H3 (ts.map I_) us) ?_ ?_
 rotate_left
 ·intro N hN;ext;refine cL.of W2.tp ∅ ⋯ ⋯ fun d H3 d0 d1 t3 x3=>?_
  have W3:=W2.Dt x3 t3;have a3:=aj.kp (Oc W2.tp x3) _ _ (Ar _) a2;refine⟨_,_,rfl,rfl,?_⟩;exact hN _ _ ⟨_,rfl,T _ (by split <;> omega),by split <;> omega,W3,a3⟩
 rintro σ H3 ⟨tot,rfl,TO,h60,W3,a3⟩;clear W2 a2;refine vM (fun σ H4=>∃A ln,σ=[some (.ref a),some (.ref pr),some (.int ((ts.map (·.2.1)).map fU.lo).sum),some (.int tot),some (.ref A.p),some (.ref ln),none,none,none,none,none,none,none]/\WD C a H (n+3001) [(A,yq tot ts (ts.map fun x=>fH x.2.1))] [(ln,[]),(pr,us)] H4/\aj H4 (ts.map I_) us) ?_ ?_
 rotate_left
 ·intro N hN;ext;refine⟨pr,us,rfl,(W3.lo (pr,us) (by simp)).2.2,fun p2 f2=>?_⟩
  have s4:=aM f2 (HO.lst us);have e4:upd H3 p2 (.lst us) p2=some (.lst us):=aB;generalize upd H3 p2 (.lst us)=H4 at s4 e4 ⊢;refine Uc (W3.grow s4) e4 (a3.mono s4) TO hps (.inl ⟨rfl,rfl⟩) (by rw[bZ]) (fun z hz=>by obtain⟨x,hx,rfl⟩:=d9.mp hz; exact(Ka (hps x hx)).1) (by rw[um hps]; exact TO.lm) fun A H5 s5 W5=>?_
  refine⟨⋯,fun ln H6 f6 s6 e6=>⟨⋯,fun p7 H7 f7 s7 e7=>⟨p7,_,rfl,dU.of e7,rfl,?_⟩⟩⟩
  ext;exact hN _ _ ⟨A,ln,rfl,(W5.new f6 s6 e6).grow s7,a3.mono (s4.trans (s5.trans (s6.trans s7)))⟩
 rintro σ H4 ⟨A,ln,rfl,W4,a4⟩;refine vM (fun σ H5=>∃gd,σ=[some (.ref a),some (.ref pr),some (.int ((ts.map (·.2.1)).map fU.lo).sum),some (.int tot),some (.ref A.p),some (.ref ln),some (.ref gd),none,none,none,none,none,none]/\WD C a H (n+3001) [(A,yq tot ts (ts.map fun x=>fH x.2.1))] [(ln,[])] H5/\RJ a H A gd (zK (ts.map (·.1)) ((ts.map (·.2.2)).map d7)) H5) ?_ ?_
 rotate_left
 ·intro N hN;ext;have e4:H4 pr=some (.lst us):=(W4.lo (pr,us) (by simp)).2.2
  obtain⟨kI,TA⟩:=vG a4;refine lW (ts.map fun x=>PyData.tuple [.str x.1,zR x.2.2]) (qF ts kI) (ir ts kI) (fun R hR=>by ext; exact hR) e4 (by simp; omega) ∅ (aW.mpr fun d hd=>by obtain⟨x,_,rfl⟩:=d9.mp hd; cases x.2.2 <;> rfl) ?_ ?_
  ·intro j x d' H' hx hd s';have TB:=TA.mono s'.kp;refine⟨fun R hR=>uc TB hx hR,fun R hR=>?_⟩;have hj:j<ts.length:=by rw[<- lu]; exact(iW.mp hx).1
   have et:ts[j]?=some ts[j]:=cN hj;rw[cD,et] at hd;cases hd;rw[g_ et];ext;exact⟨⋯,fun p8 H8 f8 s8 e8=>hR _ _ s8 (At.tup e8 (aj.cons (At.str _) (aj.cons (Fb _) aj.nil)))⟩
  ·intro acc zs H5 f5 s5 e5 a5;have lz:=a5.length;rw[bZ] at lz;have P:=pairs_at (D:=fun x:T3=>zR x.2.2) (Vl:=fun x:T3=>d7 x.2.2) (N:=fun x:T3=>x.1) (fun o v h=>TV h) a5;refine⟨acc,zs,_,rfl,e5,∅,P,fun gd fgd=>?_⟩
   have hmm:(ts.map fun x:T3=>d7 x.2.2)=(ts.map (·.2.2)).map d7:=by rw[uv]; rfl
   rw[t_ TO.nn,hmm];have s6:=aM fgd (HO.dK (zK (ts.map (·.1)) ((ts.map (·.2.2)).map d7)));obtain⟨g1,g2,_,g4⟩:=(W4.grow s5).free fgd;exact hN _ _ ⟨gd,rfl,(W4.grow (s5.trans s6)).less (by simp),⟨aB,g1,g2,g4 _ (dM.mpr rfl)⟩⟩
 rintro σ H5 ⟨gd,rfl,W5,D5⟩;clear W4 a4 W3 a3;refine vM (fun σ H6=>∃wd,σ=[some (.ref a),some (.ref pr),some (.int ((ts.map (·.2.1)).map fU.lo).sum),some (.int tot),some (.ref A.p),some (.ref ln),some (.ref gd),some (.ref wd),none,none,none,none,none]/\WD C a H (n+3001) [(A,yq tot ts (ts.map fun x=>fH x.2.1))] [(ln,[])] H6/\RJ a H A gd (zK (ts.map (·.1)) ((ts.map (·.2.2)).map d7)) H6/\RJ a H A wd (zK (ts.map (·.1)) ((ts.map fun _=>(0:Int)).map .int)) H6/\gd≠wd) ?_ ?_
 rotate_left
 ·intro N hN;ext;have hz0:(ts.map (·.1)).length=((ts.map (·.2.2)).map d7).length:=by simp
  refine UW (ts.map fun x=>PyData.tuple [.str x.1,.int 0]) (fun R hR=>by ext; exact hR) D5.e (by rw[lD hz0]; simp) (by rw[lD hz0,bZ]; omega) (aW.mpr fun d hd=>by obtain⟨x,_,rfl⟩:=d9.mp hd; rfl) (fun i k y dt H' hk hd kp R hR=>?_) fun acc zs H7 f7 s7 e7 a7=>?_
  ·have h1:=lJ (fun l:List V=>l[i]?) (oh hz0);rw[cD,hk,cD,cD] at h1;rw[cD] at hd;cases et:ts[i]? with
   | none=>rw[et] at hd; cases hd
   | some x=>
   rw[et] at hd h1;cases hd;have h2:kV k=.str x.1:=Option.some.inj h1;rw[h2];show Od _ _ _ _;ext;exact⟨⋯,fun p8 H8 f8 s8 e8=>hR _ _ s8 (At.tup e8 (aj.cons (At.str _) (aj.cons (At.int _) aj.nil)))⟩
  ·have lz:=a7.length;rw[bZ] at lz;have P:=pairs_at (D:=fun _:T3=>PyData.int 0) (Vl:=fun _:T3=>V.int 0) (N:=fun x:T3=>x.1) (fun o v h=>by unfold At at h; exact h) a7
   refine⟨acc,zs,_,rfl,e7,∅,P,fun wd fwd=>?_⟩
   have hmm:(ts.map fun _:T3=>V.int 0)=(ts.map fun _=>(0:Int)).map V.int:=by rw[uv]; rfl
   rw[t_ TO.nn,hmm];have s8:=aM fwd (HO.dK (zK (ts.map (·.1)) ((ts.map fun _=>(0:Int)).map V.int)));obtain⟨g1,g2,_,g4⟩:=(W5.grow s7).free fwd;have egd:=s7 _ _ D5.e;exact hN _ _ ⟨wd,rfl,W5.grow (s7.trans s8),⟨s8 _ _ egd,D5.f,D5.a,D5.o⟩,⟨aB,g1,g2,g4 _ (dM.mpr rfl)⟩,fun z=>by rw[<- z,egd] at fwd; cases fwd⟩
 rintro σ H6 ⟨wd,rfl,W6,D6,E6,gw⟩;have G0:GW C a H (n+3001) A (yq tot ts (ts.map fun x=>fH x.2.1)) gd wd ln [] [(ln,[])] H6:=⟨W6,D6,⟨by have:=E6.e; rw[show(yq tot ts (ts.map fun x=>fH x.2.1)).ss.map gP.w=ts.map fun _=>(0:Int) by show(ts.map fun x=>fH x.2.1).map gP.w=_; rw[uv]; rfl]; exact this,E6.f,E6.a,E6.o⟩,gw,by simp,rfl,fun k m rs h=>by simp at h⟩
 have PG0:Yo (yq tot ts (ts.map fun x=>fH x.2.1)):=⟨⟨fun s hs=>by
  obtain⟨x,_,rfl⟩:=d9.mp hs
  exact zp 0,h60⟩,fun rs h=>(fD h).elim,fun j t ht=>by
  replace ht:(ts.map fun _=>([0,0,0]:List Int))[j]?=some t:=ht
  obtain⟨_,_,rfl⟩:=d9.mp (dN ht)
  rfl⟩
 refine vM (fun σ H'=>∃A y ms ls o8 o9 m',σ=[some (.ref a),some (.ref pr),some (.int ((ts.map (·.2.1)).map fU.lo).sum),some (.int tot),some (.ref A.p),some (.ref ln),some (.ref gd),some (.ref wd),o8,o9,none,none,none]/\GW C a H m' A y gd wd ln ms ls H'/\y.ns=ts.map (·.1)/\Yo y/\y.pa.length=12) ?_ ?_
 rotate_left
 ·intro N hN;rw[vB];ext;refine FK.ofN (n:=12) rfl ∅ (fun i σ H'=>∃A y ms ls o8 o9,σ=[some (.ref a),some (.ref pr),some (.int ((ts.map (·.2.1)).map fU.lo).sum),some (.int tot),some (.ref A.p),some (.ref ln),some (.ref gd),some (.ref wd),o8,o9,none,none,none]/\GW C a H (n+3001+100*i) A y gd wd ln ms ls H'/\y.ns=ts.map (·.1)/\Yo y/\y.pa.length=i) ⟨A,_,[],_,_,_,rfl,G0,rfl,PG0,rfl⟩ ?_ (fun σ H' ⟨A,y,ms,ls,o8,o9,h1,h2,h3,h4,h5⟩=>hN _ _ ⟨A,y,ms,ls,o8,o9,_,h1,h2,h3,h4,h5⟩)
  clear G0 PG0 W6 W5 D6 D5 E6;clear A;rintro i σ H1 hi ⟨A,y,ms,ls,o8,o9,rfl,G1,yn,PG,yp⟩ M hM;simp only[Jh];ext;refine kJ.of (R:=fun σ' H'=>∃y1,σ'=[some (.ref a),some (.ref pr),some (.int ((ts.map (·.2.1)).map fU.lo).sum),some (.int tot),some (.ref A.p),some (.ref ln),some (.ref gd),some (.ref wd),some (.int (0+(i:Nat))),o9,none,none,none]/\GW C a H (n+3001+100*i+3) A y1 gd wd ln ms ls H'/\y1.ns=ts.map (·.1)/\Yo y1/\y1.pa.length=i) ?_ ?_
  rotate_left
  ·intro N hN;ext;refine cL.of G1.W.tp ∅ ⋯ ⋯ fun d H2 d0 d1 t2 x2=>?_
   have W2:=G1.W.Dt x2 t2;have k2:=Oc G1.W.tp x2
   have p2:∀(k:Nat) m rs,ms[k]?=some m->y.pa[k]?=some rs->m≠ln/\∃xs,(m,xs)∈ls/\aj H2 (rs.map sy) xs:=fun k m rs h1 h2=>by
    obtain⟨q1,xs,q2,q3⟩:=G1.p k m rs h1 h2;exact⟨q1,xs,q2,aj.kp k2 _ _ (eU _) q3⟩
   have g2:=G1.g.mv (x2.get G1.g.a G1.g.e) G1.g.o;have w2:=G1.w.mv (x2.get G1.w.a G1.w.e) G1.w.o;ext;refine dC (fun c=>?_) (fun c=>?_)
   ·refine⟨a,_,A,y,gd,ls,H,rfl,W2,g2,∅,fun os' H3 W3 D3 k3 f3=>⟨true,rfl,?_⟩⟩
    rw[aN ⋯]
    refine hN _ _ ⟨{ y with os:=os' },rfl,⟨W3,D3,w2.mv (f3 _ _ w2.e w2.a G1.gw.symm w2.o) w2.o,G1.gw,G1.l,G1.ml,fun k m rs h1 h2=>?_⟩,yn,⟨⟨PG.nw.w,PG.nw.t⟩,PG.ln,PG.sm⟩,yp⟩
    obtain⟨q1,xs,q2,q3⟩:=p2 k m rs h1 h2;exact⟨q1,xs,q2,aj.kp k3 _ _ (eU _) q3⟩
   ·exact hN _ _ ⟨y,rfl,⟨W2.Dt (SX.refl _ _) (W2.tp.mono ∅),g2,w2,G1.gw,G1.l,G1.ml,p2⟩,yn,PG,yp⟩
  rintro σ' H2 ⟨y1,rfl,G2,yn1,PG1,yp1⟩;clear G1 PG yp yn;ext;have YO:fK y1:=G2.W.yo (A,y1) (by simp)
  have lo:=YO.lo;have n5:=YO.n5;have ls1:=YO.ls;refine⟨gd,_,rfl,G2.g.e,by rw[lD (by rw[bZ]; omega)]; omega,fun pn fn=>?_⟩
  rw[oh (by rw[bZ]; omega)]
  have s3:=aM fn (HO.lst (y1.ns.map V.str));have e3:upd H2 pn (.lst (y1.ns.map V.str)) pn=some (.lst (y1.ns.map V.str)):=aB;generalize upd H2 pn (.lst (y1.ns.map V.str))=H3 at s3 e3 ⊢;have W3:=G2.W.grow s3;refine⟨a,_,pn,y1.ns,rfl,W3.tp,∅,(G2.W.free fn).2.1,e3,YO.nn,n5,fun pc us' cs H4 fc pca ec ac CG t4 x4=>?_⟩
  have W4:=W3.adn fc x4 t4 ec;have el4:H4 ln=some (.lst (ms.map V.ref)):=(W4.lo _ (dX _ G2.l)).2.2;refine⟨.inl ⟨rfl,_,cz.of el4⟩,?_⟩;refine Me.of (m:="beat") (R:=fun p=>_) (W4.ys.at_ (A,y1) (by simp)) (fun _ _ _ _ _ _ _=>rfl) ?_
  refine⟨pc,us',rfl,ec,fun p5 f5=>?_⟩;have s5:=aM f5 (HO.lst us');have e5:upd H4 p5 (.lst us') p5=some (.lst us'):=aB;generalize upd H4 p5 (.lst us')=H5 at s5 e5 ⊢;have W5:=W4.new f5 s5 e5;have lm:=G2.ml;refine W5.abn (eX ..) (ac.mono s5) CG ∅ fun p8 mm xs H6 W6 a6 k6 f6 fm Uu=>?_
  have b5:∀b u,b≠a->H2 b=some u->H5 b=some u:=fun b u n e=>s5 _ _ (x4.get n (s3 _ _ e));have g5:=b5 _ _ G2.g.a G2.g.e;have w5:=b5 _ _ G2.w.a G2.w.e;have g6:=Uu _ _ g5 G2.g.o;have w6:=Uu _ _ w5 G2.w.o;have go6:=EY (mm:=mm) G2.g.o fun z=>by rw[<- z,g5] at fm; cases fm
  have wo6:=EY (mm:=mm) G2.w.o fun z=>by rw[<- z,w5] at fm; cases fm
  obtain⟨PG2,LG⟩:=PG1.aex YO CG.b;have n2:(CV y1 cs).ns=y1.ns:=abm;have o2:(CV y1 cs).os=y1.os:=(dJ y1 (ql y1.ns cs) y1.ns.length).o;have YJ:(CV y1 cs).pa=y1.pa++[yJ y1 cs]:=rfl
  have LR:LnR (CV y1 cs) (yJ y1 cs) cs (y1.ss.map gP.w):=by
   have R:=Vz (cm:=ql y1.ns cs) YO (vh _ _) y1.ns.length (bc _);refine⟨by rw[n2]; exact LG.l,by rw[n2,bZ]; exact ls1,fun j r nm s wt h1 h2 h3 h4=>?_⟩
   rw[n2] at h2;rw[cD] at h4;cases e0:y1.ss[j]? with
   | none=>rw[e0] at h4; cases h4
   | some s0=>
   rw[e0] at h4;cases h4;obtain⟨q1,q2,q3⟩:=R.r j r nm s0 s h1 h2 e0 h3;have hb:=(LG.g r (dN h1)).1;rw[show y1.os.take y1.ns.length=y1.os by rw[<- lo,mV]] at q3
   rw[n2,o2];exact⟨q1,q3,hb.d.1,hb.a.1,q2⟩
  have YO2:fK (CV y1 cs):=W6.yo (_,CV y1 cs) (dM.mpr rfl);have CG2:CmG (CV y1 cs).ns cs:=by rw[n2]; exact CG
  have w2:H6 wd=some (.dK (zK (CV y1 cs).ns ((y1.ss.map gP.w).map .int))):=by rw[n2]; exact w6
  have g2:H6 gd=some (.dK (zK (CV y1 cs).ns ((CV y1 cs).os.map d7))):=by rw[n2,o2]; exact g6
  generalize yJ y1 cs=rs at a6 LG YJ LR;generalize CV y1 cs=y2 at W6 PG2 n2 o2 YJ LR YO2 CG2 w2 g2;have hln:(ln,ms.map V.ref)∈(p8,xs)::(p5,us')::(pc,us')::ls:=dX _ (dX _ (dX _ G2.l));have el6:H6 ln=some (.lst (ms.map V.ref)):=(W6.lo _ hln).2.2;refine⟨ln,_,_,rfl,rfl,el6,aR (by rw[bZ]; omega),?_⟩
  obtain⟨W7,k7⟩:=W6.put (vs':=ms.map V.ref++[V.ref p8]) hln
  have p8l:p8≠ln:=fun z=>by
   have:=(W5.free f6).2.2.1 _ (dX _ (dX _ G2.l));exact this z
  have e7:upd H6 ln (.lst (ms.map V.ref++[V.ref p8])) ln=some (.lst (ms.map V.ref++[V.ref p8])):=aB;have f7:∀b u,b≠ln->H6 b=some u->upd H6 ln (.lst (ms.map V.ref++[V.ref p8])) b=some u:=fun b u n e=>by rw[aC n]; exact e
  have a7:=aj.kp k7 _ _ (eU _) a6;generalize upd H6 ln (.lst (ms.map V.ref++[V.ref p8]))=H7 at W7 k7 e7 f7 a7 ⊢;have gl:gd≠ln:=fun z=>by rw[z,el6] at g2; cases g2
  have wl:wd≠ln:=fun z=>by rw[z,el6] at w2; cases w2
  have mf:∀l∈(p8,xs)::(p5,us')::(pc,us')::ls,l.1≠ln->l∈(ln,ms.map V.ref++[V.ref p8])::((p8,xs)::(p5,us')::(pc,us')::ls).filter fun l=>l.1≠ln:=fun l hl n=>dX _ (Ei.mpr ⟨hl,by simpa using n⟩)
  have pcl:pc≠ln:=fun z=>by
   have:=(W3.free fc).2.2.1 _ G2.l;exact this z
  have k27:dW H2 H7:=s3.kp.trans ((Oc W3.tp x4).trans (s5.kp.trans (k6.trans k7)));refine Ix.lst e7 (Ri _ _) ?_;refine⟨{ A with uV:=A.uV++[mm] },y2,rs,p8,xs,gd,pc,us',cs,wd,y1.ss.map gP.w,rfl,W7.ys.at_ _ (dM.mpr rfl),YO2,(W7.lo _ (mf (p8,xs) (by simp) p8l)).2.2,a7,f7 _ _ gl g2,(W7.lo _ (mf (pc,us') (by simp) pcl)).2.2,aj.kp ((s5.kp.trans k6).trans k7) _ _ (rC _) ac,CG2,f7 _ _ wl w2,G2.gw,wo6,LR,fun H8 ew8 f8=>⟨true,rfl,?_⟩⟩
  rw[aN ⋯]
  obtain⟨W8,k8⟩:=W7.dict (gd:=wd) (fun b o e n=>f8 b o (by simpa using n) e) (f7 _ _ wl w2) G2.w.f G2.w.a (fun z hz=>by rw[dM.mp hz]; exact wo6)
  refine hM _ _ ⟨{ A with uV:=A.uV++[mm] },y2,ms++[p8],_,_,_,rfl,⟨W8.Dt (SX.refl _ _) (W8.tp.mono ∅),⟨f8 _ _ G2.gw (f7 _ _ gl g2),G2.g.f,G2.g.a,go6⟩,⟨ew8,G2.w.f,G2.w.a,wo6⟩,G2.gw,by rw[gk]; exact eX ..,by rw[YJ,cF,cF,lm]; rfl,fun j mj rj h1 h2=>?_⟩,by rw[n2,yn1],PG2,by rw[YJ,cF,yp1]; rfl⟩
  by_cases hj:j<ms.length
  ·rw[yd hj] at h1;rw[YJ,yd ∅] at h2
   obtain⟨q1,xs',q2,q3⟩:=G2.p j mj rj h1 h2;exact⟨q1,xs',mf (mj,xs') (dX _ (dX _ (dX _ q2))) q1,aj.kp (k27.trans k8) _ _ (eU _) q3⟩
  ·rw[uy ∅] at h1
   rw[YJ,uy ∅] at h2
   have hj0:j-ms.length=0:=by
    cases z:j-ms.length with
    | zero=>rfl
    | succ z'=>rw[z] at h1; simp at h1
   rw[hj0] at h1;rw[show j-y1.pa.length=0 by omega] at h2
   cases h1;cases h2;exact⟨p8l,xs,mf (p8,xs) (by simp) p8l,aj.kp k8 _ _ (eU _) a7⟩
 rintro σ H7 ⟨A,y,ms,ls,o8,o9,m',rfl,G7,yn,PG,yp⟩;have YO:fK y:=G7.W.yo (A,y) (by simp)
 have lo:=YO.lo;have n5:=YO.n5;have ml:=G7.ml;have LA:=wY (fun l hl=>(G7.W.lo l hl).2.2) ml G7.p;have el7:H7 ln=some (.lst (ms.map V.ref)):=(G7.W.lo _ G7.l).2.2;refine vM (fun σ H'=>∃o10 o11 o12,σ=[some (.ref a),some (.ref pr),some (.int ((ts.map (·.2.1)).map fU.lo).sum),some (.int tot),some (.ref A.p),some (.ref ln),some (.ref gd),some (.ref wd),o8,o9,o10,o11,o12]/\aJ H7 H') ?_ ?_
 rotate_left
 ·intro N hN;have hz0:y.ns.length=(y.os.map d7).length:=by rw[bZ]; omega
  refine QX (fun R hR=>by ext; exact hR) G7.g.e (fun i σ=>∃o10 o11 o12,σ=[some (.ref a),some (.ref pr),some (.int ((ts.map (·.2.1)).map fU.lo).sum),some (.int tot),some (.ref A.p),some (.ref ln),some (.ref gd),some (.ref wd),o8,o9,o10,o11,o12]) ⟨_,_,_,rfl⟩ ?_ (fun σ H' ⟨_,_,_,h⟩ s=>hN _ _ ⟨_,_,_,h,s⟩)
  rintro i k yv σ H1 H2 pt hk ⟨o10,o11,o12,rfl⟩ k1 s12 et N2 hN2;have k72:∀b u,b≠gd->H7 b=some u->H2 b=some u:=fun b u n e=>s12 _ _ (k1 b u n e);have kp:dW H7 H2:=fun b xs e=>k72 b _ (fun z=>by rw[z,G7.g.e] at e; cases e) e
  have e1:∃nm,y.ns[i]?=some nm/\kV k=.str nm:=by
   have h1:=lJ (fun l:List V=>l[i]?) (oh hz0);rw[cD,hk,cD] at h1;cases en:y.ns[i]? with
   | none=>rw[en] at h1; cases h1
   | some nm=>rw[en] at h1; exact⟨nm,rfl,Option.some.inj h1⟩
  obtain⟨nm,en,ek⟩:=e1;rw[ek] at et;have Y2:bD C H2 A y:=(G7.W.ys.at_ (A,y) (by simp)).keep kp fun c hc o e=>k72 c o (fun z=>G7.g.o (z▸hc)) e
  have nl:∀rs∈y.pa,bG (rs.map sy)=true:=fun rs _=>eU _
  have LA2:aj H2 (y.pa.map VM) (ms.map V.ref):=wY (fun l hl=>k72 _ _ (fun z=>by have:=(G7.W.lo l hl).2.2; rw[z,G7.g.e] at this; cases this) (G7.W.lo l hl).2.2) ml fun k m rs h1 h2=>by
   obtain⟨q1,xs,q2,q3⟩:=G7.p k m rs h1 h2;exact⟨q1,xs,q2,aj.kp kp _ _ (eU _) q3⟩
  have el2:H2 ln=some (.lst (ms.map V.ref)):=k72 _ _ (fun z=>by rw[z,G7.g.e] at el7; cases el7) el7
  have hin:i<y.ns.length:=(iW.mp en).1;have lts:=YO.lt;have Ux:y.ts[i]?=some y.ts[i]:=cN ∅
  have esm:=PG.sm i _ Ux;rw[esm] at Ux;refine⟨pt,_,rfl,dU.of et,rfl,?_⟩;ext;have pl3:([V.int 1,V.int 2,V.int 3]:List V).length=3:=rfl;refine Q5 (xs:=[.int 1,.int 2,.int 3]) (fun j=>[some (.int (1+(j:Nat)))]) (fun _=>rfl) (fun R hR=>?_) (fun H3 acc s3 f3=>?_)
  ·ext;exact⟨⋯,fun p H' f s e=>hR p H' s e⟩
  have pA3:=LA2.mono s3;have eA3:=s3 _ _ el2
  have inner:∀(q:Nat)(f:Rw->Int),(∀r H v,At H (sy r) v->∃b ys,v=.ref b/\H b=some (.tup ys)/\ys[q]?=some (.int (f r)))->∀H' (R:VK),aJ H3 H'->(∀cQ,aJ H' cQ->R (.int (dY f y.pa i)) cQ)->YF (fun vs H Q=>∃p ns,vs=[V.ref p]/\(H p=some (HO.lst (List.map V.int ns))\/H p=some (HO.tup (List.map V.int ns)))/\Q (V.int ns.sum) H) (pH (iu [2,0] (nJ K (mR 1)) (R4 DP (R4 DP (mR 0) (mR 1)) (mR 2))) Ao) [some (.int (q:Nat)),some (.ref ln),some (.int (i:Nat))] H' R:=by
   intro q f hf H' R s' hR;ext;refine oN ((y.pa.map fun rs=>((rs[i]?).map f).getD 0).map .int) (fun R hR=>by ext; exact hR) (s' _ _ eA3) (by simp; omega) (by rw[bZ]; omega) (iD _) (fun k x d H4 hx hd s4 R2 hR2=>?_) fun Yj vs H5 f5 s5 e5 a5=>?_
   ·obtain⟨d',hd',hv⟩:=(pA3.mono (s'.trans s4)).get hx;rw[cD] at hd';cases er:y.pa[k]? with
    | none=>rw[er] at hd'; cases hd'
    | some rs=>
    rw[er] at hd';cases hd';rw[cD,cD,er] at hd;cases hd;have lr:=(PG.ln rs (dN er)).l;have hr':rs[i]?=some rs[i]:=cN ∅
    obtain⟨b,xs,rfl,eb,ab⟩:∃b xs,x=.ref b/\H4 b=some (.lst xs)/\aj H4 (rs.map sy) xs:=by
     unfold VM At at hv;obtain⟨b,xs,h1,h2,h3⟩:=hv;exact⟨b,xs,h1,h2,h3⟩
    obtain⟨u,hu,hau⟩:=ab.getD (i:=i) (d:=sy rs[i]) (by rw[cD,hr']; rfl)
    obtain⟨c,ys,rfl,ec,hy⟩:=hf _ _ _ hau;show DP (V.ref b) (V.int (i:Nat)) H4 fun x H1=>DP x (V.int (q:Nat)) H1 R2;refine Ix.lst eb (aY hu) ?_;refine Ix.tup ec (aY hy) (hR2 _ _ (aJ.refl _) ?_);show At H4 (.int (((rs[i]?).map f).getD 0)) _;rw[hr'];exact At.int _
   ·have:=cX a5;subst this;exact⟨Yj,_,rfl,.inl e5,hR _ s5⟩
  have row:∀(r:Rw)(H:Hp)(v:V),At H (sy r) v->∃b g,v=.ref b/\H b=some (.tup [.str r.n,.int r.c,.int r.d,.int r.a,g]):=fun r H v h=>by
   unfold sy At at h;obtain⟨b,ys,rfl,eb,ay⟩:=h;obtain⟨_,_,rfl,h1,_,_,rfl,h2,_,_,rfl,h3,_,_,rfl,h4,g,_,rfl,h5,ay⟩:=ay;subst ay;unfold At at h1 h2 h3 h4;subst h1 h2 h3 h4;exact⟨b,g,rfl,eb⟩
  refine⟨fun j ys H'=>ys=([dY Rw.c y.pa i,dY Rw.d y.pa i,dY Rw.a y.pa i].take j).map V.int/\H' acc=some (.lst ys)/\aJ H3 H',⟨rfl,aB,aM f3 _⟩,fun j ys H' h=>h.2.2,fun j x ys H' hx h=>?_,fun ys H' h=>?_⟩
  ·obtain⟨rfl,ea,sa⟩:=h;rcases j with _ | _ | _ | j
   ·cases hx;refine⟨fun R hR=>hR,inner 1 Rw.c (fun r H v h=>?_) _ _ sa fun H4 s4=>⟨s4 _ _ ea,aR (by rw[bZ,iJ]; exact jJ (Nat.min_le_left _ _) ⋯),rfl,aB,(sa.trans s4).gB f3⟩⟩
    obtain⟨b,g,h1,h2⟩:=row r H v h;exact⟨b,_,h1,h2,rfl⟩
   ·cases hx;refine⟨fun R hR=>hR,inner 2 Rw.d (fun r H v h=>?_) _ _ sa fun H4 s4=>⟨s4 _ _ ea,aR (by rw[bZ,iJ]; exact jJ (Nat.min_le_left _ _) ⋯),rfl,aB,(sa.trans s4).gB f3⟩⟩
    obtain⟨b,g,h1,h2⟩:=row r H v h;exact⟨b,_,h1,h2,rfl⟩
   ·cases hx;refine⟨fun R hR=>hR,inner 3 Rw.a (fun r H v h=>?_) _ _ sa fun H4 s4=>⟨s4 _ _ ea,aR (by rw[bZ,iJ]; exact jJ (Nat.min_le_left _ _) ⋯),rfl,aB,(sa.trans s4).gB f3⟩⟩
    obtain⟨b,g,h1,h2⟩:=row r H v h;exact⟨b,_,h1,h2,rfl⟩
   ·cases hx
  ·obtain⟨rfl,ea,sa⟩:=h;refine⟨acc,_,rfl,ea,fun l fl=>?_⟩;have s5:=aM fl (HO.tup (([dY Rw.c y.pa i,dY Rw.d y.pa i,dY Rw.a y.pa i].take 3).map V.int));have e5:upd H' l (HO.tup (([dY Rw.c y.pa i,dY Rw.d y.pa i,dY Rw.a y.pa i].take 3).map V.int)) l=some (HO.tup (([dY Rw.c y.pa i,dY Rw.d y.pa i,dY Rw.a y.pa i].take 3).map V.int)):=aB
   replace s5:aJ H' (upd H' l (.tup (([dY Rw.c y.pa i,dY Rw.d y.pa i,dY Rw.a y.pa i].take [V.int 1,V.int 2,V.int 3].length).map V.int))):=s5
   replace e5:upd H' l (.tup (([dY Rw.c y.pa i,dY Rw.d y.pa i,dY Rw.a y.pa i].take [V.int 1,V.int 2,V.int 3].length).map V.int)) l=some (HO.tup ([dY Rw.c y.pa i,dY Rw.d y.pa i,dY Rw.a y.pa i].map V.int)):=e5
   generalize upd H' l (.tup (([dY Rw.c y.pa i,dY Rw.d y.pa i,dY Rw.a y.pa i].take [V.int 1,V.int 2,V.int 3].length).map V.int))=H5 at s5 e5 ⊢;have s35:=s3.trans (sa.trans s5);have Y5:=Y2.mono s35;generalize [dY Rw.c y.pa i,dY Rw.d y.pa i,dY Rw.a y.pa i]=cl at e5 Ux
   have hcl:cl.length<=1000:=by
    have:=YO.tg _ (dN Ux);omega
   have once:∀(H6:Hp) (R:VK) (E:XK),aJ H5 H6->(∀H7,aJ H5 H7->R (.bl true) H7)->vJ C gT [V.ref A.p,V.str nm] H6 (fun x H1=>GD 6 [x,V.ref l] H1 R E0) E:=fun H6 R E s6 hR=>⟨A,y,i,nm,mQ cl,rfl,Y5.mono s6,YO,en,by show(y.ts.map mQ)[i]?=_; rw[cD,Ux]; rfl,fun v H7 s7 av=>⟨v,.ref l,mQ cl,rfl,av,At.tup ((s6.trans s7) _ _ e5) (dB cl),(SD.ints (n:=0) hcl).mono ⋯,⋯,fun H8 s8=>hR H8 (s6.trans (s7.trans s8))⟩⟩
   refine Me.of (m:="counts") (R:=fun p=>_) Y5 (fun _ _ _ _ _ _ _=>rfl) (once _ _ _ (aJ.refl _) fun H7 s7=>⟨true,rfl,?_⟩);rw[aN ⋯]
   exact hN2 _ _ ⟨_,_,_,rfl⟩ (s35.trans s7)
 rintro σ H8 ⟨o10,o11,o12,rfl,s8⟩;ext;have Y8:=(G7.W.grow s8).ys.at_ (A,y) (by simp)
 refine Me.of (m:="told") (R:=fun p=>_) Y8 (fun _ _ _ _ _ _ _=>rfl) ⟨A,y,rfl,Y8,YO,fun p ms' H9 _ _ _ s9 e9 p9=>?_⟩;refine⟨.ref p,.ref ln,.list (y.pa.map VM),rfl,At.lst e9 p9.V6,At.lst (s9 _ _ (s8 _ _ el7)) (LA.mono (s8.trans s9)),(SD.lns (fun rs hrs r hr=>YO.str ((PG.ln rs hrs).g r hr).2) ∅ (fun rs hrs=>by have:=(PG.ln rs hrs).l; omega)).mono ⋯,⋯,fun HA sA=>?_⟩
 have WA:=G7.W.grow (s8.trans (s9.trans sA));exact q HA _ WA.tp WA.sx
def Jf(K:Frag):Sp:=fun vs H Q _=>∃(p:Addr)(ns:List Int),vs=[.ref p]/\RD K H p (ns.map V.int)/\ns.length<=63/\∀H',Q (.bl true) H'
theorem O5:aX Au Au (aG vU):=(by walk_at "c")
theorem Xi(F:i_ K "law" "law" vU f fd)(B:Bi mg)(Q_:Ct P w K mg base k "_law_tape" AK (Ow K))(HW:Ct P w K mg base k "_law_walked" AM Z5):bH P w K mg base ig (k+1) f fd Au (Jf K):=by
 refine F.ok O5 (hbody:=(0:))
 obtain⟨p,ns,rfl,hS,hl,q⟩:=h;have ND:=O5.nd;refine⟨_,(aH (a_ (pb (iZ rfl) B.all tO (ao (dH (N':=["_law_k","_law_script"]) (js:=[0]) rfl (gW (by rfl) B.range (ao (pb (lB rfl) B.max tM (ao aA (ao (pb (gb rfl) B.min mq (ao (pb (cu (K:=K) rfl) B.len dq (ao (pv 0) ak)) (ao aA ak))) ak))) ak)) uq.mk1 rfl ⋯ rfl (fun fp s' H'=>(pf HW hr (ao (pf Q_ hr (ao (pv 1) (ao (pv 0) ak))) ak)))) ak)))),?_⟩
 ext;rw[rP];ext;refine⟨p,_,rfl,.inl hS.sq,_,_,rfl,?_⟩;rw[bZ]
 obtain⟨n,hn,hn8⟩:∃n:Nat,(if(if(4:Int)<(ns.length:Int) then(4:Int) else(ns.length:Int))>2 then(if(4:Int)<(ns.length:Int) then(4:Int) else(ns.length:Int)) else 2)=(n:Int)/\n<=4:=by
  refine⟨(if(if(4:Int)<(ns.length:Int) then(4:Int) else(ns.length:Int))>2 then(if(4:Int)<(ns.length:Int) then(4:Int) else(ns.length:Int)) else 2).toNat,?_,?_⟩ <;> (split <;> split <;> omega)
 rw[hn];refine CK.of (n:=n) rfl ∅ fun acc hacc=>?_
 refine⟨fun j zs H'=>zs=(List.replicate j true).map V.bl/\H' acc=some (.lst zs)/\RD K H' p (ns.map V.int)/\aJ H H',⟨rfl,aB,hS.same (aM hacc _),aM hacc _⟩,?_,?_⟩
 ·rintro j zs H2 hj ⟨rfl,c2,e2,s2⟩;show mZ _ _ _ _ [some _,some (.ref p)] H2 _;ext;refine⟨p,ns,_,rfl,e2.sq,∅,∅,fun a H3 f3 s3 t3=>?_⟩
  refine⟨a,0,rfl,t3,⋯,fun H4 _ _ s4=>?_⟩
  have k4:aJ H2 H4:=fun b o hb=>by
   have ba:b≠a:=cC hb f3;exact s4.get ba (s3 _ _ hb)
  have s5:=(s2.trans k4).gB (o:=.lst ((List.replicate j true).map V.bl++[V.bl true])) hacc;refine⟨k4 _ _ c2,by rw[bZ,pX]; exact aR ∅,?_,aB,hS.same s5,s5⟩
  rw[List.map_replicate,<- Ld,List.replicate_succ']
 ·rintro zs H2 ⟨rfl,c2,e2,s2⟩;refine⟨acc,_,rfl,c2,?_⟩;have:(List.replicate n true).all id=true:=by simp
  rw[this];exact q H2
end
theorem ZD{us:List AA}{n:Nat}(h:us.length=n+1):∃a r,us=a::r/\r.length=n:=by
 cases us with
 | nil=>cases h
 | cons a r=>exact⟨a,r,rfl,Nat.succ.inj h⟩
theorem NQ{us:List AA}(h:us.length=1):∃a,us=[a]:=by
 obtain⟨a,r,rfl,g⟩:=ZD h;cases List.length_eq_zero_iff.mp g;exact⟨a,rfl⟩
theorem Gh{us:List AA}(h:us.length=2):∃a a0,us=[a,a0]:=by
 obtain⟨a,r,rfl,g⟩:=ZD h;obtain⟨a0,rfl⟩:=NQ g;exact⟨a,a0,rfl⟩
theorem KC{us:List AA}(h:us.length=3):∃a a0 a1,us=[a,a0,a1]:=by
 obtain⟨a,r,rfl,g⟩:=ZD h;obtain⟨a0,a1,rfl⟩:=Gh g;exact⟨a,a0,a1,rfl⟩
theorem un4{us:List AA}(h:us.length=4):∃a a0 a1 a2,us=[a,a0,a1,a2]:=by
 obtain⟨a,r,rfl,g⟩:=ZD h;obtain⟨a0,a1,a2,rfl⟩:=KC g;exact⟨a,a0,a1,a2,rfl⟩
theorem un5{us:List AA}(h:us.length=5):∃a a0 a1 a2 a3,us=[a,a0,a1,a2,a3]:=by
 obtain⟨a,r,rfl,g⟩:=ZD h;obtain⟨a0,a1,a2,a3,rfl⟩:=un4 g;exact⟨a,a0,a1,a2,a3,rfl⟩
theorem all_mk{l:PySem.W.OpenLaw}{w:World}{K:Frag}{h:Heap}{mg:Str->Option AA}{fa:Addr}(X:K.In h)(G:h.Ns mainGlobals mg)(hfa:mg "law" = some (.ref fa))
  {f0:Addr} (e0:oV K "is_name" su f0)
  {f1:Addr} (e1:oV K "wish" GP f1)
  {f2:Addr} (e2:oV K "rule_wish" nu f2)
  {f3:Addr} (e3:oV K "row_says" pP f3)
  {f4:Addr} (e4:oV K "first_stand" jW f4)
  {f5:Addr} (e5:oV K "hands_of" pR f5)
  {f6 T6:Addr} (e6:Wb K "beat" GQ f6 T6 12)
  {f7:Addr} (e7:oV K "since_and_look" gR f7)
  {f8:Addr} (e8:oV K "change_of" nA f8)
  {f9:Addr} (e9:oV K "with_change" jV f9)
  {f10:Addr} (e10:oV K "sent_home" nq f10)
  {f11:Addr} (e11:oV K "check_posts" jX f11)
  {f12:Addr} (V4:oV K "check_least" jY f12)
  {f13:Addr} (X_:oV K "check_onward" jf f13)
  {f14:Addr} (e14:oV K "check_stands" je f14)
  {f15:Addr} (Uy:oV K "_law_tape" vV f15)
  {f16:Addr} (e16:oV K "_law_draw" vY f16)
  {f17:Addr} (e17:oV K "_law_units" rW f17)
  {f18:Addr} (e18:oV K "_law_row" A_ f18)
  {f19:Addr} (e19:oV K "_law_rules" rY f19)
  {f20:Addr} (e20:oV K "_law_post" vX f20)
  {f21:Addr} (e21:oV K "_law_small_post" jc f21)
  {f22:Addr} (e22:oV K "_law_names" rZ f22)
  {f23:Addr} (e23:oV K "_law_comes" sr f23)
  {f24:Addr} (e24:oV K "_law_same" qL f24)
  {f25:Addr} (e25:oV K "_law_rows" vW f25)
  {f26:Addr} (e26:oV K "_law_led" Ba f26)
  {f27:Addr} (e27:oV K "_law_line_right" jd f27)
  {f28:Addr} (e28:oV K "_law_walked" pQ f28)
  {f29:Addr} (e29:oV K "law" vU f29)
  {dZ:Addr} (jB:Zi K "Yard" "Yard.__init__" gU dZ)
  (yh:cR K dZ "total")
  (ym:cR K dZ "order")
  (yj:cR K dZ "posts")
  (uJ:cR K dZ "onwards")
  (wO:cR K dZ "stands")
  (uI:cR K dZ "tallies")
  (BP:cR K dZ "past")
  {ph:Addr} (o_:Kp K dZ "check_names" "Yard.check_names" fB ph)
  {xq:Addr} (wV:Kp K dZ "onward" "Yard.onward" jg xq)
  {Ck:Addr} (BX:Kp K dZ "lead" "Yard.lead" lG Ck)
  {yu:Addr} (yr:Kp K dZ "stand" "Yard.stand" jZ yu)
  {yw:Addr} (yt:Kp K dZ "hands" "Yard.hands" j0 yw)
  {rn:Addr} (qX:Kp K dZ "post_beat" "Yard.post_beat" gD rn)
  {Cm:Addr} (BZ:Kp K dZ "beat" "Yard.beat" lH Cm)
  {Cj:Addr} (BW:Kp K dZ "told" "Yard.told" lF Cj)
  {xr:Addr} (wW:Kp K dZ "counts" "Yard.counts" jh xr)
  (yL:nsIn K mainGlobals "beat_beats" = some (some (.ref f6)))
  {bB:Addr} (Ku:nsIn K mainGlobals "BadYard" = some (some (.ref bB)))
  (Al:excIn K bB Wj "ValueError.__new__" = true)
  (Am:exmOne K (.ref bB) (.ref bB)=some true)
  (Zv:Nb K "all")
  (Ak:Nb K "isinstance")
  (Zm:Nb K "str")
  (Zt:Nb K "len")
  (Zr:Nb K "max")
  (Zq:Nb K "min")
  (Zk:Nb K "sum")
  (Wc:Nb K "list")
  (Gn:Nb K "reversed")
  (RQ:Nb K "range")
  (RP:Nb K "tuple")
  (Dl:Nb K "enumerate")
  (Zo:Nb K "set")
  (Zw:Nb K "abs")
  (Zu:Nb K "int")
  (We:Nb K "bool")
  (Zj:Nb K "zip")
  (Wd:Nb K "dict")
  {N6 N5 NZ:Tok} (T9:NT K "WHATS" [.str "come" N6,.str "done" N5,.str "wait" NZ])
  (Xm:Dc K "OVER" "over")
  (T_:Dc K "UNDER" "under")
  (Xn:Dc K "EACH" "each")
  (Ly:Dc K "LETTERS" "abcdefghijklmnopqrstuvwxyz")
  (wR:Ni K "MOST_LETTERS" 8)
  (BV:Ni K "MOST_HANDS" 12)
  (wQ:Ni K "TRIPLES_SEEN" 3)
  (BR:Ni K "MOST_POSTS" 5) :
  ∃fd:FuncData,(∀(s:AB)(v:AA),BindsTo s fd ⟨[v],[]⟩ [("_law_script",v)])/\∀base:Heap,K.In base->base.Ns mainGlobals mg->bH l.prog w K mg base ig 10 fa fd Au (Jf K):=by
 obtain⟨h0⟩:=e0.has X G (ps:=["thing"]) fun _ _ _ _ _ _ us hl=>by obtain⟨_,rfl⟩:=NQ hl; rfl
 obtain⟨h1⟩:=e1.has X G (ps:=["post","hands","newest"]) fun _ _ _ _ _ _ us hl=>by obtain⟨_,_,_,rfl⟩:=KC hl; rfl
 obtain⟨h2⟩:=e2.has X G (ps:=["rule","hands","newest"]) fun _ _ _ _ _ _ us hl=>by obtain⟨_,_,_,rfl⟩:=KC hl; rfl
 obtain⟨h3⟩:=e3.has X G (ps:=["row","hands","newest"]) fun _ _ _ _ _ _ us hl=>by obtain⟨_,_,_,rfl⟩:=KC hl; rfl
 obtain⟨h4⟩:=e4.has X G (ps:=["post"]) fun _ _ _ _ _ _ us hl=>by obtain⟨_,rfl⟩:=NQ hl; rfl
 obtain⟨h5⟩:=e5.has X G (ps:=["stand"]) fun _ _ _ _ _ _ us hl=>by obtain⟨_,rfl⟩:=NQ hl; rfl
 obtain⟨h6⟩:=e6.has X G (ps:=["post","stand","come","free"]) (fun _ _ _ _ _ _ _ us hl=>by
  rw[oX] at hl;obtain⟨_,_,_,_,rfl⟩:=un4 hl
  exact⟨_,rfl,rfl⟩) fun _ _ _ _ _ _ _ us hl=>by
  obtain⟨_,_,_,rfl⟩:=KC (Nat.succ.inj ((cF).symm.trans hl));exact⟨_,rfl,rfl⟩
 obtain⟨h7⟩:=e7.has X G (ps:=["post","since","rest"]) fun _ _ _ _ _ _ us hl=>by obtain⟨_,_,_,rfl⟩:=KC hl; rfl
 obtain⟨h8⟩:=e8.has X G (ps:=["post","hands","newest","free"]) fun _ _ _ _ _ _ us hl=>by obtain⟨_,_,_,_,rfl⟩:=un4 hl; rfl
 obtain⟨h9⟩:=e9.has X G (ps:=["post","stand","change"]) fun _ _ _ _ _ _ us hl=>by obtain⟨_,_,_,rfl⟩:=KC hl; rfl
 obtain⟨h10⟩:=e10.has X G (ps:=["ready","called","many"]) fun _ _ _ _ _ _ us hl=>by obtain⟨_,_,_,rfl⟩:=KC hl; rfl
 obtain⟨h11⟩:=e11.has X G (ps:=["total","posts"]) fun _ _ _ _ _ _ us hl=>by obtain⟨_,_,rfl⟩:=Gh hl; rfl
 obtain⟨h12⟩:=V4.has X G (ps:=["total","posts"]) fun _ _ _ _ _ _ us hl=>by obtain⟨_,_,rfl⟩:=Gh hl; rfl
 obtain⟨h13⟩:=X_.has X G (ps:=["onward","behind"]) fun _ _ _ _ _ _ us hl=>by obtain⟨_,_,rfl⟩:=Gh hl; rfl
 obtain⟨h14⟩:=e14.has X G (ps:=["total","posts","stands"]) fun _ _ _ _ _ _ us hl=>by obtain⟨_,_,_,rfl⟩:=KC hl; rfl
 obtain⟨h15⟩:=Uy.has X G (ps:=["_law_script","_law_k"]) fun _ _ _ _ _ _ us hl=>by obtain⟨_,_,rfl⟩:=Gh hl; rfl
 obtain⟨h16⟩:=e16.has X G (ps:=["_law_tape_here","_law_many"]) fun _ _ _ _ _ _ us hl=>by obtain⟨_,_,rfl⟩:=Gh hl; rfl
 obtain⟨h17⟩:=e17.has X G (ps:=["_law_tape_here"]) fun _ _ _ _ _ _ us hl=>by obtain⟨_,rfl⟩:=NQ hl; rfl
 obtain⟨h18⟩:=e18.has X G (ps:=["_law_tape_here","_law_small"]) fun _ _ _ _ _ _ us hl=>by obtain⟨_,_,rfl⟩:=Gh hl; rfl
 obtain⟨h19⟩:=e19.has X G (ps:=["_law_tape_here","_law_small"]) fun _ _ _ _ _ _ us hl=>by obtain⟨_,_,rfl⟩:=Gh hl; rfl
 obtain⟨h20⟩:=e20.has X G (ps:=["_law_tape_here"]) fun _ _ _ _ _ _ us hl=>by obtain⟨_,rfl⟩:=NQ hl; rfl
 obtain⟨h21⟩:=e21.has X G (ps:=["_law_tape_here"]) fun _ _ _ _ _ _ us hl=>by obtain⟨_,rfl⟩:=NQ hl; rfl
 obtain⟨h22⟩:=e22.has X G (ps:=["_law_tape_here","_law_many"]) fun _ _ _ _ _ _ us hl=>by obtain⟨_,_,rfl⟩:=Gh hl; rfl
 obtain⟨h23⟩:=e23.has X G (ps:=["_law_tape_here","_law_names_here"]) fun _ _ _ _ _ _ us hl=>by obtain⟨_,_,rfl⟩:=Gh hl; rfl
 obtain⟨J8⟩:=e24.has X G (ps:=["_law_found","_law_due"]) fun _ _ _ _ _ _ us hl=>by obtain⟨_,_,rfl⟩:=Gh hl; rfl
 obtain⟨h25⟩:=e25.has X G (ps:=["_law_tape_here"]) fun _ _ _ _ _ _ us hl=>by obtain⟨_,rfl⟩:=NQ hl; rfl
 obtain⟨h26⟩:=e26.has X G (ps:=["_law_tape_here","_law_yard","_law_goals"]) fun _ _ _ _ _ _ us hl=>by obtain⟨_,_,_,rfl⟩:=KC hl; rfl
 obtain⟨h27⟩:=e27.has X G (ps:=["_law_yard","_law_told","_law_goals","_law_comes_here","_law_waits"]) fun _ _ _ _ _ _ us hl=>by obtain⟨_,_,_,_,_,rfl⟩:=un5 hl; rfl
 obtain⟨h28⟩:=e28.has X G (ps:=["_law_tape_here"]) fun _ _ _ _ _ _ us hl=>by obtain⟨_,rfl⟩:=NQ hl; rfl
 have yK:=(mg_of X G yL).trans ((mg_of X G e6.ns).symm.trans h6.m)
 obtain⟨J7⟩:=jB.has X G (ps:=["self","total","posts","stands"]) (fun _ _ _ _ _ _ _ us hl=>by
  rw[oX] at hl;obtain⟨_,_,_,_,rfl⟩:=un4 hl
  exact⟨_,rfl,rfl⟩) fun _ _ _ _ _ _ _ us hl=>by
  obtain⟨_,_,_,rfl⟩:=KC (Nat.succ.inj ((cF).symm.trans hl));exact⟨_,rfl,rfl⟩
 have fQ:ZY K dZ:=⟨jB.c,yh,ym,yj,uJ,wO,uI,BP⟩;obtain⟨iG⟩:=o_.has (ps:=["self","names"]) fun _ _ _ _ _ _ us hl=>by obtain⟨_,_,rfl⟩:=Gh hl; rfl
 obtain⟨mK⟩:=wV.has (ps:=["self","name"]) fun _ _ _ _ _ _ us hl=>by obtain⟨_,_,rfl⟩:=Gh hl; rfl
 obtain⟨pN⟩:=BX.has (ps:=["self","name","onward"]) fun _ _ _ _ _ _ us hl=>by obtain⟨_,_,_,rfl⟩:=KC hl; rfl
 obtain⟨nM⟩:=yr.has (ps:=["self","name"]) fun _ _ _ _ _ _ us hl=>by obtain⟨_,_,rfl⟩:=Gh hl; rfl
 obtain⟨nO⟩:=yt.has (ps:=["self"]) fun _ _ _ _ _ _ us hl=>by obtain⟨_,rfl⟩:=NQ hl; rfl
 obtain⟨jx⟩:=qX.has (ps:=["self","name","come"]) fun _ _ _ _ _ _ us hl=>by obtain⟨_,_,_,rfl⟩:=KC hl; rfl
 obtain⟨pO⟩:=BZ.has (ps:=["self","comes"]) fun _ _ _ _ _ _ us hl=>by obtain⟨_,_,rfl⟩:=Gh hl; rfl
 obtain⟨pM⟩:=BW.has (ps:=["self"]) fun _ _ _ _ _ _ us hl=>by obtain⟨_,rfl⟩:=NQ hl; rfl
 obtain⟨mL⟩:=wW.has (ps:=["self","name"]) fun _ _ _ _ _ _ us hl=>by obtain⟨_,_,rfl⟩:=Gh hl; rfl
 have B:Bi mg:=⟨mg_none_of X G Zv,mg_none_of X G Ak,mg_none_of X G Zm,mg_none_of X G Zt,mg_none_of X G Zr,mg_none_of X G Zq,mg_none_of X G Zk,mg_none_of X G Wc,mg_none_of X G Gn,mg_none_of X G RQ,mg_none_of X G RP,mg_none_of X G Dl,mg_none_of X G Zo,mg_none_of X G Zw,mg_none_of X G Zu,mg_none_of X G We,mg_none_of X G Zj,mg_none_of X G Wd⟩;have O:Co K mg:=⟨(let ⟨a,n,_,z,m⟩:=T9; ⟨a,mg_of X G z,⟨_,m,rfl,rfl⟩,fun H=>.inr ⟨_,_,n,m,rfl,rfl,(by show 3<=sizeLine; decide),(.cons ⟨_,rfl⟩ (.cons ⟨_,rfl⟩ (.cons ⟨_,rfl⟩ .nil)))⟩⟩),Xm.gs X G,T_.gs X G,Xn.gs X G,Ly.gs X G,wR.gi X G,BV.gi X G,wQ.gi X G,BR.gi X G⟩
 have Z:ZL K mg bB:=⟨mg_of X G Ku,Al,Am⟩;obtain⟨oc,od,an,sl,kV,dc,pm,cd,ct,ea,el,ec,ek0⟩:=e29;have e:=hfa.symm.trans (mg_of X G ea);cases e;refine⟨fnOf "law" "law" (b_ vU) (bT vU) (aG vU) .none kV dc pm an cd ct,fun s v=>.of_eq rfl,fun base _ _=>?_⟩;have F:=Hy (st:=vU) el ec ek0;have FT:=h15.ct l.prog w base (Lp (k:=0) h15.F B);have cP:=h16.ct l.prog w base (Ls (k:=0) h16.F B);have lY:=h17.ct l.prog w base (Hc (k:=1) h17.F B (cP.mono ⋯))
 have HX:=h18.ct l.prog w base (Qd (k:=2) h18.F B (cP.mono ⋯) (lY.mono ⋯))
 have rH:=h19.ct l.prog w base (Hf (k:=3) h19.F B (cP.mono ⋯) (HX.mono ⋯))
 have FZ:=h20.ct l.prog w base (Lr (k:=4) h20.F B (cP.mono ⋯) (lY.mono ⋯) (rH.mono ⋯))
 have rG:=h21.ct l.prog w base (uz (k:=4) h21.F B (cP.mono ⋯) (rH.mono ⋯))
 have CN:=h22.ct l.prog w base (Hg (k:=1) h22.F B (cP.mono ⋯))
 have FW:=h25.ct l.prog w base (Lq (k:=5) h25.F B (cP.mono ⋯) (FZ.mono ⋯) (rG.mono ⋯) (CN.mono ⋯))
 have yI:=J8.ct l.prog w base (Hd (k:=0) J8.F);have yH:=J8.ct l.prog w base (iY (k:=1) 0 J8.F B (yI.mono ⋯))
 have yG:=J8.ct l.prog w base (iY (k:=2) 1 J8.F B (yH.mono ⋯))
 have yF:=J8.ct l.prog w base (iY (k:=3) 2 J8.F B (yG.mono ⋯))
 have yE:=J8.ct l.prog w base (iY (k:=4) 3 J8.F B (yF.mono ⋯))
 have yD:=J8.ct l.prog w base (iY (k:=5) 4 J8.F B (yE.mono ⋯))
 have j_:=J8.ct l.prog w base (iY (k:=6) 5 J8.F B (yD.mono ⋯))
 have aQ:=iG.ct jB.c l.prog w base (nF (k:=0) iG.F B fQ);have jF:=mK.ct jB.c l.prog w base (uF (k:=1) mK.F fQ (aQ.mono ⋯))
 have dz:=h13.Zb l.prog w base (uE (k:=0) h13.F Z);have nZ:=pN.Zb jB.c l.prog w base (yf (k:=1) pN.F B fQ (aQ.mono ⋯) (dz.mono ⋯))
 have rK:=nZ.calm;have HY:=h26.ct l.prog w base (Qe (k:=7) h26.F B Z (cP.mono ⋯) (j_.mono ⋯) (jF.mono ⋯) (nZ.mono ⋯))
 have CP:=h23.ct l.prog w base (Hh (k:=2) h23.F B (cP.mono ⋯) (lY.mono ⋯))
 have kh:=nM.ct jB.c l.prog w base (wL (k:=1) nM.F fQ (aQ.mono ⋯))
 have rJ:=h27.ct l.prog w base (uA (k:=7) h27.F B fQ (j_.mono ⋯) (kh.mono ⋯))
 have tK:=h0.ct l.prog w base (Hi (k:=0) h0.F B O);have j9:=h12.Zb l.prog w base (wK (k:=0) h12.F B Z);have j8:=h11.ct l.prog w base (wJ (k:=1) h11.F B O (tK.mono ⋯) (dz.mono ⋯) (j9.mono ⋯))
 have j7:=h4.ct l.prog w base (wI (k:=0) h4.F B);have dh:=h5.ct l.prog w base (Ff (k:=0) h5.F B);have jE:=h14.ct l.prog w base (uD (k:=1) h14.F B (dh.mono ⋯))
 have tL:=qU (k:=2) J7.F B fQ (j8.mono ⋯) (j7.mono ⋯) (jE.mono ⋯)
 have Rc:=J7.Zb l.prog w base tL;have H_:=Rc.calm;have kj:=nO.ct jB.c l.prog w base (wM (k:=1) nO.F B fQ (dh.mono ⋯))
 have e_:=h7.ct l.prog w base (qT (k:=0) h7.F);have qt:=h3.ct l.prog w base (Fd (k:=0) h3.F B O);have nY:=h2.ct l.prog w base (BJ (k:=1) h2.F (qt.mono ⋯))
 have HS:=h1.ct l.prog w base (TY (k:=2) h1.F B (nY.mono ⋯))
 have jR:=h8.ct l.prog w base (BK (k:=3) h8.F B (HS.mono ⋯))
 have nW:=h10.ct l.prog w base (Bx (k:=0) h10.F B);have ie:=h9.ct l.prog w base (wH (k:=1) h9.F B (nW.mono ⋯))
 have aev:=h6.ct l.prog w base (JN (k:=4) h6.F B O (e_.mono ⋯) (jR.mono ⋯) (dh.mono ⋯) (ie.mono ⋯))
 have lX:=RK.alias (h6.ct l.prog w base (JN (k:=4) h6.F B O (e_.mono ⋯) (jR.mono ⋯) (dh.mono ⋯) (ie.mono ⋯))) yK
 have gK:=jx.ct jB.c l.prog w base (pZ (k:=5) jx.F B O fQ (kj.mono ⋯) (lX.mono ⋯))
 have l_:=pO.ct jB.c l.prog w base (yg (k:=6) pO.F B fQ (aQ.mono ⋯) (gK.mono ⋯))
 have lZ:=pM.ct jB.c l.prog w base (ye (k:=0) pM.F B fQ);have jG:=mL.ct jB.c l.prog w base (uG (k:=1) mL.F fQ (aQ.mono ⋯))
 have yC:=h28.ct l.prog w base (Fe (k:=8) h28.F B fQ (cP.mono ⋯) (FW.mono ⋯) (HY.mono ⋯) (CP.mono ⋯) (rJ.mono ⋯) (j_.mono ⋯) (H_.mono ⋯) (l_.mono ⋯) (lZ.mono ⋯) (jG.mono ⋯))
 exact Xi (k:=9) F B (FT.mono ⋯) (yC.mono ⋯)
theorem walk{l:PySem.W.OpenLaw}{q:AC}{loose:List Str}{XP:(Str->Option AA)->Heap->Prop}{YP:World->Heap->Prop}{d:DefRec}{K:Params->Frag}(hn:l.most=some 63)(hdf:d.params.defaults=[])
  (hY:∀(w:World)(h:Heap),YP w h->(K w.params).In h)
  (F:∀(w:World)(mg:Str->Option AA)(fa:Addr)(h:Heap),(K w.params).In h->h.Ns mainGlobals mg->mg d.name=some (.ref fa) ->
   ∃fd:FuncData,(∀(s:AB)(u:AA),BindsTo s fd ⟨[u],[]⟩ [("_law_script",u)])/\∀base:Heap,(K w.params).In base->base.Ns mainGlobals mg->bH l.prog w (K w.params) mg base ig 10 fa fd Au (Jf (K w.params))) :
  PySem.W.WalkO q loose XP YP l.row.toRowW d [] (fun f vs=>PySem.call f vs):=
 _L.RW (n:=63) (k:=10) (x:="_law_script") (CX:=fun _=>ig) (sp:=fun w=>Jf (K w.params)) hn ⋯ hdf ⟨rfl,⋯,⋯,rfl⟩ hY F (fun _ _ a ns hl hO hS=>⟨a,ns,rfl,RD.of hS hO,hl,fun _=>rfl⟩) fun _ _ _ _ _ z=>z
end _K
structure PySem.W.Fast:Prop where(tw16071399153659447509 tw17348327925946403166 tw1657251563660230175 tw18028259326547733584 tw3801616893545940969 tw12986857311389192646 tw153813785649319983 tw13126473585358065146 tw15602084375172907288 tw7659698408860682106 tw663343416221955027 tw7745606379105918312 tw1492991431659319861 tw12368806152916404900 tw17322065529861446433 tw5712199376177891837 tw12257268512988394762 tw8527840726889483114 tw7254020655479629486 tw15590946081726209912 tw10449891999764514503 tw2421874970581035041 tw6293974257190719417 tw18084686342226298126 tw17588735557769918049 tw7038613943095966217 tw9999535292178635890 tw17337462292557855044 tw11728286129697811491 tw12008585412931554694 tw18527882447384675 tw15669315455113853782 tw1211143280183572220 tw18370230425248825754 tw5336831491230147844 tw14906353516142928593 tw3189719445877337471 tw3223401903735990882 tw11709179412443941501 tw1100915206636744296 tw7163037424027120255 tw9302930126448847353 tw2654951847949823210 tw14422860919896878951 tw8904290374235188441 tw3742837009542407263 tw1691211977083191821 tw8939201309821837732 tw15526613857250239709 tw13477916576237183229 tw14909404324787970157 tw514928284212551782 tw15041694076892206730 tw7040481053335181736 tw3140371717083604834 tw12852541802813456798 tw2382573131327070551 tw15717998409256362692 tw12591941897060929016 tw12891668614658629628 tw7638615109150877463 tw18111962033585936755 tw12704437862551915970 tw39500778192731276 tw7580066097715472393 tw14681487391898610679 tw7961229466350321503 tw2498983185804919318 tw5763784231239340366 tw10706493499381894018 tw14720766490961001324 tw4735688388970033819 tw9568634643813728400 tw17463894388001237498 tw8307180146409276803 tw17824053003072914084 tw4716981914566163592 tw17139212106871261583 tw5001323316165979907 tw5062053027083762270 tw3183064813870156812 tw13034434040885134950 tw4593135260855534310 tw10550532140292261153 tw1053093746119011353 tw11813065422266271831 tw13820403898129913429 tw14902632236609071424 tw4612174152879058307 tw4643418466149154604 tw3722921656479539969 tw9298598262787587812 tw3462997748582017263 tw11302836319551209386 tw1195266561661215334 tw1440175665668224195 tw2746747812128600494 tw7323785173927232792 tw8020489512094822723 tw7810371282400003162 tw7772054573034585562 tw17433992549641324207 tw17475219084091786857 tw7667875168585492977 tw15677340221984575516 tw14875455513272640993 tw15536293622443105294 tw1673286936876147253 tw11754779380026647276 tw6657737089273540148 tw6487579321594602834 tw3296251446792986989 tw4557420194220298950 tw1598713600165991095 tw7245959309150732001 tw2890832254655853549 tw13397274362210265134 tw17903675655082027727 tw17330246253133302716 tw27391982223888292 tw16160418805880265322 tw4576630866864015373 tw1395820337053215493 tw373589646578006336 tw8536925175445778394 tw12331027437956529784 tw3719175241289336856 tw12975137230873092245 tw2898504804339837328 tw9376730456288869856 tw301793024546757444 tw11812316832389810553 tw3407151460679990430 tw5176106899951941186 tw1860006279641205961 tw13352383970321952119 tw16857565665920924053 tw16671842577348778351 tw7482840852206371367 tw12153831079525142330 tw9928544709754993126 tw5344340347133096521 tw18359095460003019554 tw10638034014471437932 tw15088967686406722083 tw4778418778672307050 tw9113343216335531780 tw11819807885024600548 tw9722121620503052465 tw11702031216646948698 tw10647231699388715337 tw11531723928697468448 tw13689703818978849649 tw4667835592326867721 tw1060685900694338534 tw14589739008761089206 tw12230291094767002991 tw12152766912124063677 tw9887082017656929704 tw11749229126301333785 tw573786546642410294 tw8376078084457655275 tw13822031217238006392 tw10044133514867363404 tw10448006991584619717 tw14837902364880416256 tw5954410251152243918 tw942281588622268482 tw17188080111491016273 tw3987675945060116553 tw8142165622691460029 tw3916565540786428893 tw2681574690259086463 tw1503730393154294454 tw6894161411356956179 tw14141868648025634291 tw8342823347954127647 tw10417229223962995002 tw12032668723505600206 tw756622309964203044 tw10792186850500564289 tw4765505172017588326 tw13944829037107455037 tw4349252806695171042 tw7758351093620735641 tw18145035733876477450 tw50887815072773105 tw10388652792483954677 tw2965805340376675465 tw4791123624246562180 tw5209911426381866156 tw8746511076683472354 tw5271063651064473362 tw11424193208261396611 tw1831957211623476913 tw1636194965517901083 tw8370925359978418103 tw16455683993146689309 tw10914741862886385263 tw1249452101280607772 tw9814794979088417896 tw16962311017495236122 tw11702053582942405210 tw15251289869625869063 tw15519923052623892932 tw3690021688760375725 tw4039584296799675071 tw6434879386281241601 tw548842586330441871 tw7518993673049625216 tw743091684858608797 tw12675426118164285961 tw4253477846592966475 tw2289757445935668395 tw16241700925331291530 tw10803541051660132216 tw14016790617988306060 tw5942948177150040909 tw9476407392074463578 tw15650496804681696893 tw2278075200035632920 tw8809442570236020922 tw3020495258015935683 tw7479439363257996914 tw4007488691584779143 tw4531064406110839191 tw6134711254609496086 tw16493734112396836807 tw15226483972894072911 tw4131345227459314741 tw10101123347505451130 tw4444438587502547540 tw12093034982591366771 tw11761544112387584086 tw16843048778079407503 tw3540463010816246716 tw18265744982199670577 tw3738127210486703887 tw4488972384033991900 tw7233749646405792694 tw8279496069698734039 tw7963319641995830646 tw7092152267930522994 tw12585179291791695471 tw639949703135287676 tw16770644056313834817 tw6539134750931625867 tw1791248948733989662 tw14523162955020624598 tw4198293593018673008 tw8918515335571169629 tw13442108865977337481 tw5214477715461637943 tw13485037459584416628 tw175792801605950827 tw13056250142774364911 tw14043604555628528574 tw7896780377191117615 tw6168510174120622796 tw13947329682292955187 tw5039248906162641384 tw4616923069293585343 tw13634591830976937145 tw12173306962153951359 tw3018962541622354191 tw8143398795996721759 tw2254272062565359363 tw1672197072671633358 tw6747094356079534078 tw15045319742914006627 tw14017948509189618803 tw7394951606562853334 tw4114466448135157959 tw75211986254669805 tw1229509155744332613 tw3913181692574503063 tw8600481130526675084 tw5389658783155840359 tw3717521811732651471 tw688033721109026726 tw4445826680554966889 tw6123254754280143983 tw1223888234989390228 tw17079294104933277674 tw9893194464969406214 tw3364594294473958392 tw15432053917157113262 tw9547411156397982908 tw12818925663941722598 tw6766620327670615109 tw3437616904812310366 tw13858016325357601137 tw16722404957559067560 tw15563099816930306662 tw5861331103663827271 tw16987900748751205413 tw929141512048037854 tw10169938833415880797 tw9638988387276919659 tw9560872736737391672 tw6423145970797626006 tw6191800044276062964 tw9758093987680458566 tw4254640888232189147 tw16338277921757870577 tw8858594655973231948 tw14814194218584674991 tw12239059239723878376 tw12460958326329825172 tw14667808631953666292 tw11993175598228538790 tw663021703583790138 tw4607995369145048562 tw2688537701667261581 tw5163888816653874663 tw1195720801004882604 tw6271557854012367987 tw8231712958728946985 tw14050598933748210238 tw974096444344426625 tw9039725889115063765 tw5614913306988051548 tw18195203600274167789 tw2973473523602684232 tw17705781189293207901 tw11702052574814330522 tw2611615650477423520 tw5419830034195946243 tw15437258800000042752 tw1333978823870279527 tw10749127307452780626 tw3252377174964753980 tw6380979586802972813 tw763699091076703911 tw9529698391617684063 tw17842494818235869572 tw14999218580540857892 tw1935554956354920519 tw9527313521673453165 tw10620451539376996118 tw4738173429593851847 tw16292176412490040783 tw14112574557900480779 tw13017787109631378377 tw8198086480119307709 tw2935409430561357282 tw11973398656359473796 tw12666564850991598444 tw10571222511732441661 tw17506477724956942098 tw12236889988943874083 tw2798734506104818502 tw10345782225138651503 tw5984892662408860911 tw6222267906012026897 tw2774289567894566443 tw15722521237011947712 tw10640062740565441818 tw8159832799835733401 tw486837235060769943 tw15911335546281386162 tw17880839863741911909 tw5741451408756207655 tw5992787502435273294 tw7054023384490032511 tw5357582651324835209 tw13319472035442476628 tw14389543170293411579 tw3991257913057540151 tw16552882450970079286 tw4303755901295075727 tw4261694057813116400 tw11234343403743637802 tw3113138636099931225 tw13328502855518286175 tw5652808363716380559 tw13636506151494421199 tw3818872379441234888 tw1298564861749437315 tw13473516981917896610 tw2730817943217752286 tw7292134743526129970 tw5745444614864941386 tw17732704278747935365 tw7828458326807500812 tw2157042346611063234 tw217768197722326638 tw16284849637781574985 tw8940844218864608611 tw4764748085999551363 tw16716822205357762672 tw5435719381133363319 tw14641144267849033852:True)
open PySem PySem.W PyProof.Rows
local macro_rules | `(tactic| walk_at "cle")=>`(tactic| (refine' _L.Zi.mk' ?a ?b ?c ?d ?e ?f ?g ?h ?i ?j ?k ?l ?m; (case a=>k_is); (case b=>k_is); (case c=>k_is); (case d=>k_is); (case e=>k_is); (case f=>k_is); (case g=>k_is); (case h=>k_is); (case i=>k_is); (case j=>k_is); (case k=>k_is); (case l=>k_is); (case m=>k_is)))
local macro_rules | `(tactic| walk_at "fc")=>`(tactic| (refine' _L.Kp.mk' ?a ?b ?c ?d ?e; (case a=>k_is); (case b=>k_is); (case c=>k_is); (case d=>k_is); (case e=>k_is)))
local macro_rules | `(tactic| walk_at "fd")=>`(tactic| (refine' _L.Wb.mk ?a ?b ?c ?d ?e; (case a=>k_is); (case b=>k_is); (case c=>k_is); (case d=>k_is); (case e=>k_is)))
local macro_rules | `(tactic| walk_at "fn")=>`(tactic| (refine' _L.oV.mk ?a ?b ?c ?d; (case a=>k_is); (case b=>k_is); (case c=>k_is); (case d=>k_is)))
local macro_rules | `(tactic| walk_at "na")=>`(tactic| (unfold _L.cR; k_is))
local macro_rules | `(tactic| walk_at "nb")=>`(tactic| (unfold _L.Nb; k_is))
local macro_rules | `(tactic| walk_at "ni")=>`(tactic| (refine' _L.Ni.mk ?a; (case a=>k_is)))
local macro_rules | `(tactic| walk_at "ns")=>`(tactic| (refine' _L.Dc.mk ?a; (case a=>k_is)))
local macro_rules | `(tactic| walk_at "nt")=>`(tactic| (refine' _L.NT.mk ?a ?b; (case a=>k_is); (case b=>k_is)))
set_option maxRecDepth 100000 in
set_option maxHeartbeats 0 in
theorem PySem.Challenge.cw_waithands_k34_led_on_holds : PySem.Challenge.rw_waithands_k34_led_on.Holds := by
 w_on; o_law; k_head; (case hw=>w_witness2)
 k_fill
 refine _K.walk (l:=PySem.Challenge.rw_waithands_k34_led_on) rfl rfl (fun w h Y=>PySem.W.kIn_of Y) ?F
 case F=>
  intro w mg fa h KX G hmg;refine' _K.all_mk KX G hmg ?e0 ?e1 ?e2 ?e3 ?e4 ?e5 ?e6 ?e7 ?e8 ?e9 ?e10 ?e11 ?V4 ?X_ ?e14 ?Uy ?e16 ?e17 ?e18 ?e19 ?e20 ?e21 ?e22 ?e23 ?e24 ?e25 ?e26 ?e27 ?e28 ?e29 ?e30 ?e31 ?e32 ?e33 ?e34 ?e35 ?e36 ?e37 ?e38 ?e39 ?e40 ?e41 ?e42 ?e43 ?e44 ?e45 ?e46 ?e47 ?e48 ?e49 ?e50 ?e51 ?e52 ?e53 ?e54 ?e55 ?e56 ?e57 ?e58 ?e59 ?e60 ?e61 ?e62 ?e63 ?e64 ?e65 ?e66 ?e67 ?e68 ?e69 ?e70 ?e71 ?e72 ?e73 ?e74 ?e75 ?e76 ?e77
  case e0 | e1 | e2 | e3 | e4 | e5=>walk_at "fn"
  case e6=>walk_at "fd"
  case e7 | e8 | e9 | e10 | e11 | V4 | X_ | e14 | Uy | e16 | e17 | e18 | e19 | e20 | e21 | e22 | e23 | e24 | e25 | e26 | e27 | e28 | e29=>walk_at "fn"
  case e30=>walk_at "cle"
  case e31 | e32 | e33 | e34 | e35 | e36 | e37=>walk_at "na"
  case e38 | e39 | e40 | e41 | e42 | e43 | e44 | e45 | e46=>walk_at "fc"
  case e47 | e48=>k_is
  case e49=>k_exc
  case e50=>kts_exm
  case e51 | e52 | e53 | e54 | e55 | e56 | e57 | e58 | e59 | e60 | e61 | e62 | e63 | e64 | e65 | e66 | e67 | e68=>walk_at "nb"
  case e69=>walk_at "nt"
  case e70 | e71 | e72 | e73=>walk_at "ns"
  case e74 | e75 | e76 | e77=>walk_at "ni"
