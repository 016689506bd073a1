import PyProof.Rows.All
import Open.SpecLaws
import KE.OsHead
import KE.OsGo
import KE.SpHead
import KE.OsShapes
import KE.KSortTupG
import KE.KSortKeyAny
import PyProof.Rows.CallKwBuiltin
import Wide.All
import OpenK.AllK
import Wide.FinOn
import PyProof.EqAt
import PyProof.EqKinds
import PyProof.TupleCall
import KE.BitLaws
import VbptalSpec
import PyVbptal
import PyFlatLaws
import PyProof.SetKind
import PyProof.Rows.SetFrom
import KE.KDictSum
import PyProof.Rows.SortWalk
import PyProof.Draws
import PyProof.ZipIter
import PyProof.EnumMake
import PyProof.Rows.TupIter
import PySem.Challenge.RW_classeditions_s01_answers
set_option Elab.async false
set_option compiler.extract_closed false
set_option linter.all false
set_option maxRecDepth 100000
set_option maxHeartbeats 4000000
noncomputable section
def xG:=@PySem.wpAny_bind
def xH:=@List.length_map
def xI:=@of_decide_eq_true
def xJ:=@if_neg
def xK:=@PySem.W.mg_of
def xN:=@PySem.Heap.get?_push_of_some
def xO:=@List.mem_of_getElem?
def xP:=@List.getElem?_eq_some_iff
def xQ:=@if_pos
def xR:=@decide_eq_true
def xS:=@List.length_append
def xT:=@Bool.and_eq_true_iff
def xU:=@PySem.wpAny_pure
def xV:=@decide_eq_false
def xW:=@List.getElem?_eq_getElem
def xX:=@List.map_append
def xY:=@List.mem_cons_of_mem
def xZ:=@Nat.le_refl
def xa:=@PySem.F.plainAttrs_list
def xb:=@List.mem_cons
def xc:=@of_decide_eq_false
def xf:=@PySem.Heap.get?_push_size
def xg:=@List.length_cons
def xh:=@List.getElem?_map
def xi:=@Nat.zero_le
def xj:=@PySem.Heap.lt_size
def xk:=@List.all_eq_true
def xl:=@List.mem_cons_self
def xm:=@List.take_length
def xn:=@Option.some.inj
def xo:=@PySem.PassesOwn.never
def xq:=@List.mem_append
def xr:=@Nat.le_trans
def xt:=@List.length_take
def xu:=@Option.map_eq_some_iff
def xw:=@PySem.F.slot_list_append
def xx:=@PySem.F.type_list_append
def xy:=@Bool.false_ne_true
def x1:=@List.size_toArray
def x2:=@Bool.and_true
def x3:=@congrArg
def x4:=@Bool.and_eq_true
def x5:=@List.mem_map
def x6:=@Nat.ne_of_lt
def x8:=@Ne.symm
def x9:=@PySem.Heap.size_push
def yA:=@List.nodup_cons
def yB:=@List.append_assoc
def yC:=@Nat.lt_of_lt_of_le
def yD:=@List.mem_singleton
def yE:=@List.map_cons
def yF:=@beq_eq_false_iff_ne
def yG:=@Int.toNat_natCast
def yH:=@List.mem_filter
def yI:=@List.length_filter_le
def yJ:=@List.append_nil
def yK:=@PySem.mem_of_lookup
def yL:=@Classical.byContradiction
def yN:=@decide_eq_true_eq
def yO:=@Nat.eq_of_testBit_eq
def yP:=@Bool.true_and
def yQ:=@List.dropLast_concat
def yR:=@List.length_eq_zero_iff
def yS:=@List.pairwise_cons
def yT:=@List.take_of_length_le
def yU:=@Bool.or_eq_false_iff
def yV:=@List.filter_append
def yW:=@Nat.lt_succ_of_lt
def yX:=@List.nodup_append
def yY:=@Nat.ne_of_gt
def yZ:=@List.mem_range
def yb:=@List.mem_append_right
def yc:=@List.getElem?_eq_none
def yd:=@Nat.mod_two_eq_zero_or_one
def ye:=@Array.getElem?_eq_getElem
def yf:=@Nat.testBit_and
def yg:=@List.map_map
def yh:=@List.not_mem_nil
def yi:=@PySem.Heap.SameBut.update
def yj:=@PySem.Heap.get?_update_self
def yl:=@List.length_range
def ym:=@PySem.wpAny_callSpecial?_slot
def yn:=@List.all_cons
def yo:=@Bool.false_or
def yp:=@List.takeWhile_cons_of_pos
def yq:=@PySem.Obj.data_mapFields
def yr:=@PySem.wpAny_call_entry
def yt:=@List.flatMap_append
def yu:=@List.map_congr_left
def yw:=@PySem.wpAny_newObj_type
def yx:=@PySem.F.slot_list_extend
def yy:=@PySem.F.type_list_extend
def yz:=@PyProof.Rows.callWith_type1
def y1:=@PySem.W.mg_none_of
def y2:=@Option.bind_eq_some_iff
def y3:=@List.mem_append_left
def y4:=@PySem.wpAny_mono
def y6:=@List.getElem?_of_mem
def y8:=@Nat.lt_irrefl
def y9:=@List.takeWhile_cons_of_neg
def zA:=@PySem.wpAny_truthy_bool
def zB:=@List.find?_cons
def zC:=@Array.getElem?_toList
def zD:=@PySem.F.slot_list_pop
def zE:=@PySem.F.type_list_pop
def zF:=@PySem.Paired.length
def zG:=@PySem.wpAny_seqItems
def zH:=@List.filter_cons_of_pos
def zI:=@List.filter_cons_of_neg
def zJ:=@List.flatMap_cons
def zK:=@List.pairwise_map
def zL:=@PySem.wpAny_ite_split
def zM:=@Array.length_toList
def zN:=@Bool.or_eq_true_iff
def zO:=@PySem.Heap.get?_update_other
def zP:=@PySem.wpAny_field
def zQ:=@PySem.wpAny_holding
def zR:=@List.lookup_cons
def zS:=@Nat.testBit_zero
def zT:=@List.cons_append
def zU:=@Bool.false_and
def zV:=@PySem.wpAny_Call_Name_kw
def zW:=@List.length_singleton
def zX:=@List.contains_iff_mem
def zY:=@Bool.eq_iff_iff
def zZ:=@List.length_set
def za:=@Nat.pow_succ
def zb:=@Nat.pow_le_pow_right
def zc:=@List.Pairwise.filter
def zd:=@Bool.of_not_eq_false
def ze:=@Bool.eq_false_iff
def zf:=@List.filterMap_cons
def zg:=@List.length_reverse
def zh:=@List.length_drop
def zi:=@Nat.le_add_right
def zj:=@PySem.wpAny_setField
def zk:=@List.pairwise_lt_range
def zl:=@PySem.codeAny_mono
def zm:=@Int.natCast_nonneg
def zo:=@PySem.wpAny_setField_rec
def zp:=@PySem.wpAny_passesOwn
def zq:=@PySem.F.slot_dict_get
def zr:=@List.range_succ
def zt:=@PySem.Obj.isFreed_of_fields
def zu:=@List.getD_eq_getElem?_getD
def zv:=@beq_iff_eq
def zw:=@List.mem_of_find?_eq_some
def zx:=@List.mem_or_eq_of_mem_set
def zy:=@PySem.Around.under_plainId
def z0:=@Nat.le_succ
def z3:=@Nat.lt_succ_self
def z9:=@Nat.testBit_succ
def AAA:=@List.mem_flatMap
def AAB:=@PySem.F.called_set
def AAC:=@PySem.AutoSeq1.wpAny_loadPart'
def AAD:=@PySem.Heap.get?_update_ne
def AAE:=@List.any_cons
def AAF:=@PySem.wpAny_attempt
def AAG:=@PySem.Calls.spliced_cons
def AAH:=@Nat.le_add_left
def AAI:=@List.find?_eq_none
def AAJ:=@List.all_append
def AAK:=@PySem.codeAny_builtin
def AAL:=@PySem.sizeLine_eq
def AAM:=@PySem.Calls.callWith_builtin
def AAN:=@Nat.exists_testBit_of_ne_zero
def AAO:=@List.foldl_append
def AAP:=@Nat.le_of_lt
def AAQ:=@Nat.testBit_or
def AAR:=@List.flatMap_eq_foldl
def AAS:=@List.dropLast_concat_getLast
def AAT:=@List.Perm.refl
def AAU:=@List.take_append_drop
def AAV:=@Nat.lt_of_not_le
def AAW:=@List.any_eq_true
def AAX:=@List.getElem_mem
def AAY:=@List.map_take
def AAZ:=@List.getElem_of_mem
def AAa:=@PyProof.Rows.slot_tupleiter_next
def AAb:=@List.getElem?_append_left
def AAc:=@Bool.or_eq_true
def AAd:=@Nat.two_pow_pos
def AAe:=@List.pairwise_iff_getElem
def AAf:=@Nat.min_eq_left
def AAg:=@Option.isNone_iff_eq_none
def AAh:=@List.mem_filterMap
def AAi:=@not_or
def AAj:=@Nat.lt_of_le_of_lt
def AAk:=@Nat.mul_comm
def AAl:=@Bool.not_eq_false'
def AAm:=@PySem.wpAny_rule
def AAn:=@PySem.F.args_dict_get_3
def AAo:=@PyProof.Rows.F.plain_set_update_loop
def AAp:=@PySem.wpAny_pyIter_list
def AAq:=@Nat.le_of_succ_le
def AAr:=@PySem.wpAny_Call_method
def AAs:=@PySem.wpAny_pyIter_enum
def AAt:=@Nat.le_succ_of_le
def AAu:=@PySem.Obj.cls_mapFields
def AAv:=@Bool.not_eq_true'
def AAw:=@List.getElem?_set_self
def AAx:=@PySem.F.entry_dict_get
def AAy:=@List.length_pos_of_mem
def AAz:=@List.find?_cons_of_pos
def AA0:=@Array.getElem?_eq_none
def AA1:=@List.drop_of_length_le
def AA2:=@List.getElem_cons_drop
def AA3:=@List.set_eq_take_append_cons_drop
def AA4:=@PySem.plainId_quiet
def AA5:=@Int.ofNat.inj
def AA6:=@List.length_tail
def AA7:=@PySem.wpAny_isInstance
def AA8:=@PySem.W.methodCall_KW
def AA9:=@if_true
def ABA:=@List.getElem?_set_ne
def ABB:=@PySem.wpAny_execs_nil
def ABC:=@List.of_mem_zip
def ABD:=@PySem.Calls.evalArgs_plain
def ABE:=@List.all_map
def ABF:=@PySem.pushCells_keeps
def ABG:=@Nat.lt_trans
def ABH:=@List.mem_of_getLast?
def ABI:=@List.forall_mem_cons
def ABJ:=@List.filter_nil
def ABK:=@PySem.wpAny_updateSeq_pair
def ABL:=@PySem.F.slot_zip_next
def ABM:=@PyProof.Rows.get?_update_seq
def ABN:=@PySem.W.plainGet_of
def ABO:=@PySem.W.callWith_K0
def ABP:=@PySem.evalArgs_none
def ABQ:=@List.Sublist.append
def ABR:=@List.forIn_nil
def ABS:=@PySem.W.length_le_weightAllW
def ABT:=@List.take_zero
def ABU:=@PySem.wpAny_fieldsOf
def ABV:=@PySem.W.callWith_K
def ABW:=@Bool.false_eq_true
def ABX:=@PySem.tupleKind_room_in1
def ABY:=@Nat.div_mul_cancel
def ABZ:=@List.zipIdx_append
def ABa:=@PySem.wpAny_standAt
def ABb:=@List.getElem?_append_right
def ABc:=@List.cons.inj
def ABd:=@Nat.mul_assoc
def ABe:=@List.length_eraseIdx_of_lt
def ABf:=@PySem.wpAny_onRaise
def ABg:=@List.map_drop
def ABh:=@PySem.Calls.spliced_nil
def ABi:=@Option.isSome_map
def ABj:=@Nat.lt_succ_of_le
def ABk:=@PySem.fits_of_scanBound
def ABl:=@List.Sublist.refl
def ABm:=@PySem.F.slot_dict_getitem
def ABn:=@List.getElem?_eq_none_iff
def ABo:=@List.getLast?_eq_some_iff
def ABp:=@PySem.intKind_is
def ABq:=@PySem.F.plain_extend_loop
def ABr:=@List.getLast?_eq_none_iff
def ABs:=@Nat.le_of_eq
def ABt:=@Option.isSome_iff_exists
def ABu:=@if_false
def ABv:=@List.map_nil
def ABw:=@Nat.testBit_two_pow_self
def ABx:=@Int.ofNat_le
def ABy:=@ite_self
def ABz:=@List.length_erase_of_mem
def AB0:=@Nat.pos_of_mul_pos_right
def AB1:=@PySem.wpAny_askSetting
def AB2:=@or_false
def AB3:=@Nat.min_eq_right
def AB4:=@PySem.F.plainAttrs_dict
def AB5:=@List.getElem?_cons_zero
def AB6:=@PySem.F.plain_list_iadd
def AB7:=@List.forIn_cons
def AB8:=@List.length_nil
def AB9:=@Nat.testBit_xor
def ACA:=@Nat.not_lt_zero
def ACB:=@List.headD_cons
def ACC:=@List.map_id
def ACD:=@PySem.wpAny_of_eq
def ACE:=@PySem.wpAny_letGo
def ACF:=@List.nodup_nil
def ACG:=@Nat.mod_lt
def ACH:=@List.sum_cons
theorem Dk{p:Prop}(h:p:=by decide+kernel):p:=h
theorem Dc{p:Prop}(h:p:=by decide):p:=h
theorem Om{p:Prop}(h:p:=by lia):p:=h
section
set_option Elab.async false
set_option linter.all false
set_option maxRecDepth 100000
namespace L2
open PySem PySem.Spec PyProof.Rows
abbrev Key:=Sum Int Str
noncomputable def Pf:Key->Value->Bool
 | .inl k,v=>Value.isInt k v
 | .inr x,v=>Value.isStrOf x v
noncomputable def sr(w:World):Key->Int
 | .inl k=>hashInt k
 | .inr x=>hashStr w x
theorem CL:∀{k:Key}{v:Value},Pf k v=true->(∃i t,k=Sum.inl i/\v=Value.int i t)\/(∃x t,k=Sum.inr x/\v=Value.str x t)
 | .inl i,v,h=>by obtain⟨t,e⟩:=Value.isInt_shape (k:=i) (v:=v) h;exact .inl ⟨i,t,rfl,e⟩
 | .inr x,v,h=>by obtain⟨t,e⟩:=Value.isStrOf_shape (x:=x) (v:=v) h;exact .inr ⟨x,t,rfl,e⟩
theorem jv(i:Int)(t:Tok):Pf (.inl i) (.int i t)=true:=by simp[Pf,Value.isInt]
theorem jf(x:Str)(t:Tok):Pf (.inr x) (.str x t)=true:=by simp[Pf,Value.isStrOf]
theorem r9(a b:Int):decide ((Sum.inl a:Key)=Sum.inl b)=(a==b):=by
 by_cases e:a=b
 .subst e;simp
 .have h:¬(Sum.inl a:Key)=Sum.inl b:=λq=>e (Sum.inl.inj q);rw[xV h];exact(yF.mpr e).symm
theorem qw(a b:Str):decide ((Sum.inr a:Key)=Sum.inr b)=decide (a=b):=by
 by_cases e:a=b
 .subst e;simp
 .have h:¬(Sum.inr a:Key)=Sum.inr b:=λq=>e (Sum.inr.inj q);rw[xV h,xV e]
theorem qQ(a:Int)(b:Str):decide ((Sum.inl a:Key)=Sum.inr b)=false:=xV (λq=>nomatch q)
theorem rW(a:Str)(b:Int):decide ((Sum.inr a:Key)=Sum.inl b)=false:=xV (λq=>nomatch q)
def BQ(prog:Program)(w:World):PySem.KeyKind prog w Key where
 is:=Pf
 hash:=sr w
 inj:=λv a b z q=>by
  rcases CL z with⟨i,t,rfl,rfl⟩|⟨x,t,rfl,rfl⟩
  .rcases CL q with⟨j,u,rfl,e⟩|⟨y,u,rfl,e⟩
   .injection e with e1 _;rw[e1]
   .exact nomatch e
  .rcases CL q with⟨j,u,rfl,e⟩|⟨y,u,rfl,e⟩
   .exact nomatch e
   .injection e with e1 _;rw[e1]
 byValue:=λk v h=>by rcases CL h with⟨i,t,rfl,rfl⟩|⟨x,t,rfl,rfl⟩<;> rfl
 pyHash:=λn h=>by
  rcases CL n with⟨i,t,rfl,rfl⟩|⟨x,t,rfl,rfl⟩
  .exact wpAny_pyHash_int h
  .exact wpAny_pyHash_str h
 eqBool:=λB n h=>by
  rcases CL B with⟨i,t,rfl,rfl⟩|⟨x,t,rfl,rfl⟩
  .rcases CL n with⟨j,u,rfl,rfl⟩|⟨y,u,rfl,rfl⟩
   .rw[r9]at h;exact wpAny_eqBool_int h
   .rw[qQ]at h;exact SeqAt.EqAt.int_str i t y u _ _ _ _ h
  .rcases CL n with⟨j,u,rfl,rfl⟩|⟨y,u,rfl,rfl⟩
   .rw[rW]at h;exact SeqAt.EqAt.str_int x t j u _ _ _ _ h
   .rw[qw]at h;exact wpAny_eqBool_str h
 «strs»:=λk x t v h=>by
  rcases CL h with⟨i,u,rfl,e⟩|⟨y,u,rfl,e⟩
  .exact nomatch e
  .injection e with e1 _
   subst e1;cases v<;> rfl
theorem Z8(prog:Program)(w:World)(i:Int)(t:Tok):(BQ prog w).is (.inl i) (.int i t)=true:=jv i t
theorem cw(prog:Program)(w:World)(x:Str)(t:Tok):(BQ prog w).is (.inr x) (.str x t)=true:=jf x t
inductive V where
 |non|bl (b:Bool)|int (i:Int)|str (x:Str)|byt (b:Array UInt8)|flt (b:UInt64)|ref (a:Addr)|ty (n:String)
 deriving DecidableEq
def RelV:V->Value->Prop
 | .non,u=>u=Value.none
 | .bl b,u=>u=Value.bool b
 | .int i,u=>∃t,u=Value.int i t
 | .str x,u=>∃t,u=Value.str x t
 | .byt b,u=>∃t,u=Value.bytes b t
 | .flt b,u=>∃t,u=Value.float b t
 | .ref a,u=>u=Value.ref a
 | .ty n,u=>u=Value.type n
abbrev Vals:List V->List Value->Prop:=Paired RelV
theorem Vals.length(r:Vals xs us):xs.length=us.length:=zF r
theorem Vals.get:∀{xs:List V}{us:List Value}{i:Nat}{x:V},Vals xs us->xs[i]?=some x->∃u,us[i]?=some u/\RelV x u
 |_,_,_,_,.nil,e=>by simp at e
 |_,_,0,_,.cons r _,e=>by simp at e;subst e;exact⟨_,rfl,r⟩
 |_,_,i+1,x,.cons _ t,e=>by obtain⟨u,h1,h2⟩:=Vals.get (i:=i) (x:=x) t (by simpa using e);exact⟨u,by simpa using h1,h2⟩
theorem Vals.set(r:RelV x u):∀{xs:List V}{us:List Value}(i:Nat),Vals xs us->Vals (xs.set i x) (us.set i u)
 |_,_,_,.nil=>.nil
 |_,_,0,.cons _ t=>.cons r t
 |_,_,i+1,.cons q t=>.cons q (Vals.set r i t)
theorem Vals.append{xs ys:List V}{us j:List Value}(h:Vals xs us)(s:Vals ys j):Vals (xs++ys) (us++j):=by
 induction h with
 |nil=>exact s
 |cons r t n=>exact .cons r n
theorem Vals.take:∀{xs:List V}{us:List Value}(n:Nat),Vals xs us->Vals (xs.take n) (us.take n)
 |_,_,0,_=>.nil
 |_,_,_+1,.nil=>.nil
 |_,_,n+1,.cons r t=>.cons r (Vals.take n t)
theorem Vals.drop:∀{xs:List V}{us:List Value}(n:Nat),Vals xs us->Vals (xs.drop n) (us.drop n)
 |_,_,0,r=>r
 |_,_,_+1,.nil=>.nil
 |_,_,n+1,.cons _ t=>Vals.drop n t
def Jz:Option V->Option Value->Prop
 |some v,some u=>RelV v u
 |none,none=>True
 |_,_=>False
def KV:List (κ×V)->List (κ×Value)->Prop:=Paired λ(p:κ×V)(q:κ×Value)=>p.1=q.1/\RelV p.2 q.2
noncomputable def kV:Key->V
 | .inl i=>.int i
 | .inr x=>.str x
inductive HO where
 |lst (xs:List V)
 |tup (xs:List V)
 |dK (kvs:List (Key×V))|dT (kvs:List (List Key×V))
 |set (S:Int->Bool) (n:Nat)
 |ins (C dx:Addr) (fs:List (Str×V))
 |own (x:Addr)
 |xd (fs:List (Str×V))
 |met (f x:Addr)
 |rng (lo hi:Int)
 |frz (o:Obj) (u:HO)
 |tbl (ps:Array Value)
 |ext (φ:Heap->Prop)
abbrev Hp:=Addr->Option HO
noncomputable def upd(H:Hp)(a:Addr)(o:HO):Hp:=λb=>if b=a then some o else H b
theorem AB:upd H a o a=some o:=by unfold upd;rw[xQ rfl]
theorem AG(h:b≠a):upd H a o b=H b:=by unfold upd;rw[xJ h]
theorem CD:upd (upd H a o) a u=upd H a u:=by funext b;unfold upd;split<;> rfl
theorem Dv{H:Hp}{a b:Addr}{o u:HO}(h:H a=some o)(h':H b=some u)(d:o≠u):a≠b:=by intro e;subst e;rw[h]at h';exact d (xn h')
theorem AH{H:Hp}{a b:Addr}{o:HO}(h:H a=some o)(h':H b=none):a≠b:=by intro e;subst e;rw[h]at h';cases h'
section
variable(P:Program)(w:World)
def CC(H:Hp)(h:Heap)(a:Addr):HO->Prop
 | .lst xs=>xs.length<=sizeLine/\∃(its:List Value)(n:Nat),Vals xs its/\h.get? a=some {cls:=.type "list",data:=.seq its.toArray n}
 | .tup xs=>xs.length<=sizeLine/\∃its:List Value,Vals xs its/\IsTup h a its.toArray
 | .dK kvs=>kvs.length<=sizeLine/\(a==sysModules)=false/\∃vs,KV kvs vs/\h.DictOf (BQ P w) a vs
 | .dT kvs=>kvs.length<=sizeLine/\(a==sysModules)=false/\∃xs:List (List Key×Addr×Value),
   Paired (λ(p:List Key×V)(q:List Key×Addr×Value)=>p.1=q.1/\H q.2.1=some (.tup (p.1.map kV))/\RelV p.2 q.2.2) kvs xs/\
   ∃o es ep,h.get? a=some o/\o.ExactDict/\o.data=.dict es ep/\es.toList=xs.map (entryOfKey (tupleKind (BQ P w)))/\(xs.map (·.1)).Nodup
 | .set S n=>h.SetOf (intKind P w) a S n
 | .ins C dx fs=>H dx=some (.own a)/\fs.length<=1000/\dx≠a/\h.get? a=some (PySem.W.instObj C dx)/\
   ∃mA,h.Ns1 dx mA/\(∀f,Jz (fs.lookup f) (mA f))/\PySem.Within mA (fs.map (·.1))
 | .own _=>∃o,h.get? a=some o
 | .xd fs=>∃mA,h.Ns1 a mA/\∀f,Jz (fs.lookup f) (mA f)
 | .rng lo hi=>∃t u v,h.get? a=some {cls:=.type "range",data:=.fields #[.int lo t,.int hi u,.int 1 v]}
 | .frz o u=>h.get? a=some o/\CC H h a u
 | .tbl ps=>h.get? a=some {cls:=.none,data:=.fields ps}
 | .met f x=>h.get? a=some (PySem.W.methodObj (.ref f) (.ref x))
 | .ext j=>j h/\(∃o,h.get? a=some o)/\∀h1 h2:Heap,j h1->(∀o,h1.get? a=some o->h2.get? a=some o)->j h2
def Kw(H:Hp)(h:Heap):Prop:=∀a o,H a=some o->CC P w H h a o
end
section
variable{P:Program}{w:World}{H H':Hp}{h h':Heap}{a:Addr}{o:HO}
theorem CC.lt(x:CC P w H h a o):a<h.objs.size:=by
 cases o with
 |lst xs=>obtain⟨_,_,_,_,e⟩:=x;exact xj e
 |tup xs=>obtain⟨_,_,_,p⟩:=x;exact p.lt
 |dK kvs=>obtain⟨_,_,_,_,o,_,_,e,_⟩:=x;exact xj e
 |dT kvs=>obtain⟨_,_,_,_,o,_,_,e,_⟩:=x;exact xj e
 |set S n=>obtain⟨o,_,_,_,e,_⟩:=x;exact xj e
 |ins C dx fs=>obtain⟨_,_,_,e,_⟩:=x;exact xj e
 |own y=>obtain⟨_,e⟩:=x;exact xj e
 |xd fs=>obtain⟨_,⟨_,_,_,e,_⟩,_⟩:=x;exact xj e
 |rng lo hi=>obtain⟨_,_,_,e⟩:=x;exact xj e
 |frz j u=>obtain⟨e,_⟩:=x;exact xj e
 |tbl ps=>exact xj (show h.get? a=some _ from x)
 |met f y=>exact xj (show h.get? a=some _ from x)
 |ext q=>obtain⟨_,⟨_,e⟩,_⟩:=x;exact xj e
theorem Paired.sI{j n:Type}{F G:j->n->Prop}{l₁:List j}{l₂:List n}(h:Paired F l₁ l₂)(f:∀a b,F a b->G a b):Paired G l₁ l₂:=by
 induction h with
 |nil=>exact .nil
 |cons r t q=>exact .cons (f _ _ r) q
theorem CC.RI(x:CC P w H h a o)(k:∀b u,(b=a\/H b=some (.own a))->h.get? b=some u->h'.get? b=some u)
  (I:∀b,H b=some (.own a)->H' b=some (.own a)) (J:∀b xs,H b=some (.tup xs)->H' b=some (.tup xs)):CC P w H' h' a o:=by
 induction o with
 |lst xs=>obtain⟨z,its,n,r,e⟩:=x;exact⟨z,its,n,r,k _ _ (.inl rfl) e⟩
 |tup xs=>obtain⟨z,its,r,j,e,c⟩:=x;exact⟨z,its,r,j,k _ _ (.inl rfl) e,c⟩
 |dK kvs=>obtain⟨z,y,vs,r,j,es,ep,e,c⟩:=x;exact⟨z,y,vs,r,j,es,ep,k _ _ (.inl rfl) e,c⟩
 |dT kvs=>obtain⟨z,y,xs,r,j,es,ep,e,c⟩:=x;exact⟨z,y,xs,Paired.sI r λp q z=>⟨z.1,J _ _ z.2.1,z.2.2⟩,j,es,ep,k _ _ (.inl rfl) e,c⟩
 |set S n=>obtain⟨j,es,ep,t,e,c⟩:=x;exact⟨j,es,ep,t,k _ _ (.inl rfl) e,c⟩
 |ins C dx fs=>obtain⟨d,z,ne,e,mA,⟨B,es,ep,L,c⟩,r⟩:=x;exact⟨I _ d,z,ne,k _ _ (.inl rfl) e,mA,⟨B,es,ep,k _ _ (.inr d) L,c⟩,r⟩
 |own y=>obtain⟨j,e⟩:=x;exact⟨j,k _ _ (.inl rfl) e⟩
 |xd fs=>obtain⟨mA,⟨B,es,ep,e,c⟩,r⟩:=x;exact⟨mA,⟨B,es,ep,k _ _ (.inl rfl) e,c⟩,r⟩
 |rng lo hi=>obtain⟨t,u,v,e⟩:=x;exact⟨t,u,v,k _ _ (.inl rfl) e⟩
 |frz j u M=>obtain⟨e,q⟩:=x;exact⟨k _ _ (.inl rfl) e,M q⟩
 |tbl ps=>have e:h.get? a=some {cls:=.none,data:=.fields ps}:=x;show h'.get? a=some {cls:=.none,data:=.fields ps};exact k a _ (.inl rfl) e
 |met f y=>have e:h.get? a=some (PySem.W.methodObj (.ref f) (.ref y)):=x;show h'.get? a=some (PySem.W.methodObj (.ref f) (.ref y));exact k a _ (.inl rfl) e
 |ext N=>obtain⟨p,⟨o,e⟩,st⟩:=x;exact⟨st _ _ p λo q=>k _ _ (.inl rfl) q,⟨o,k _ _ (.inl rfl) e⟩,st⟩
theorem Kw.lt(x:Kw P w H h)(e:H a=some o):a<h.objs.size:=(x a o e).lt
theorem Kw.fresh(x:Kw P w H h)(e:h.objs.size<=a):H a=none:=by
 cases q:H a with
 |none=>rfl
 |some u=>exact absurd (yC (x.lt q) e) (y8 _)
theorem Kw.kept(x:Kw P w H h)(k:∀b u,h.get? b=some u->h'.get? b=some u):Kw P w H h':=λa o e=>
 (x a o e).RI (λb u _ q=>k b u q) (λ_ q=>q) λ_ _ q=>q
theorem Kw.laid(x:Kw P w H h)(k:∀b u,h.get? b=some u->h'.get? b=some u)(z:h.objs.size<=a)(new:CC P w (upd H a o) h' a o):Kw P w (upd H a o) h':=λb u e=>by
 have j:=x.fresh z;by_cases n:b=a
 .subst n;rw[AB]at e;cases e;exact new
 .rw[AG n]at e;exact(x b u e).RI (λc v _ q=>k c v q) (λc q=>by rw[AG (AH q j)];exact q) λc xs q=>by rw[AG (AH q j)];exact q
end
def Rd(H:Hp)(a:Addr)(u:HO):Prop:=H a=some u\/∃o,H a=some (.frz o u)
theorem Rd.of(h:H a=some u):Rd H a u:=.inl h
theorem Rd.ok{P:Program}{w:World}{H:Hp}{h:Heap}{a:Addr}{u:HO}(r:Rd H a u)(x:Kw P w H h):CC P w H h a u:=by
 rcases r with r|⟨o,r⟩
 .exact x a u r
 .obtain⟨_,q⟩:=x a _ r;exact q
def pO:Option HO->Prop
 |some (.lst _)=>True
 |some (.dK _)=>True
 |some (.dT _)=>True
 |some (.set _ _)=>True
 |some (.ins _ _ _)=>True
 |some (.ext _)=>True
 |_=>False
section
variable{P:Program}{w:World}{H:Hp}{h h':Heap}{x e:Addr}{o':HO}
theorem Kw.write(ok:Kw P w H h)(I:pO (H x))(N:e=x\/H e=some (.own x))(k:∀b u,b≠e->h.get? b=some u->h'.get? b=some u)(M:∃u,h'.get? e=some u)
  (new:CC P w (upd H x o') h' x o'):Kw P w (upd H x o') h':=λb u q=>by
 have n:∀c y,H c=some (.own y)->c≠x:=λc y r z=>by subst z;rw[r]at I;exact I
 have B:∀c xs,H c=some (.tup xs)->c≠x:=λc xs r z=>by subst z;rw[r]at I;exact I
 by_cases J:b=x
 .subst J;rw[AB]at q;cases q;exact new
 .rw[AG J]at q;by_cases j:b=e
  .have O:H b=some (.own x):=by
    rcases N with z|z
    .exact absurd (j.trans z) J
    .rw[j];exact z
   rw[q]at O;cases O;obtain⟨v,U⟩:=M;exact⟨v,by rw[j];exact U⟩
  .refine(ok b u q).RI (λc v L r=>k c v ?_ r) (λc r=>by rw[AG (n c b r)];exact r) λc xs r=>by rw[AG (B c xs r)];exact r
   rcases L with rfl|L
   .exact j
   .rintro rfl;rcases N with z|z
    .exact n c b L z
    .rw[L]at z;cases z;exact J rfl
end
structure Un(fs ex:List Addr)(H H':Hp)(h h':Heap):Prop where
 keep:∀b o,h.get? b=some o->H b=none->b∉fs->b∉ex->h'.get? b=some o
 slot:∀b o,h.get? b=some o->H b=none->b∈fs->b∉ex->∃sl,h'.get? b=some {o with slots:=sl}
 free:∀b o,h.get? b=some o->H b=none->b∉ex->H' b=none
 there:∀b o,h.get? b=some o->b∉ex->∃o',h'.get? b=some o'
 eD:∀b xs,H b=some (.tup xs)->H' b=some (.tup xs)
 ZO:∀b o u,H b=some (.frz o u)->H' b=some (.frz o u)
 dj:∀b ps,H b=some (.tbl ps)->∃more,H' b=some (.tbl (ps++more))
section
variable{fs fs' ex ex':List Addr}{H H1 H2:Hp}{h h1 h2 h':Heap}{a x e:Addr}{o:HO}
theorem Un.any(u:Un fs ex H H1 h h1)(q:h.get? b=some j)(n:H b=none)(z:b∉ex):∃I,h1.get? b=some {j with slots:=I}:=by
 by_cases B:b∈fs
 .exact u.slot b j q n B z
 .exact⟨j.slots,u.keep b j q n B z⟩
theorem Un.kept(k:∀b u,h.get? b=some u->h'.get? b=some u):Un fs ex H H h h':=
 ⟨λb j q _ _ _=>k b j q,λb j q _ _ _=>⟨j.slots,k b j q⟩,λ_ _ _ n _=>n,λb j q _=>⟨j,k b j q⟩,λ_ _ q=>q,λ_ _ _ q=>q,λ_ ps q=>⟨#[],by rw[q];simp⟩⟩
theorem Un.refl:Un fs ex H H h h:=Un.kept λ_ _ q=>q
theorem Un.laid(k:∀b u,h.get? b=some u->h'.get? b=some u)(z:h.objs.size<=a)(j:H a=none):Un fs ex H (upd H a o) h h' where
 keep:=λb u q _ _ _=>k b u q
 slot:=λb u q _ _ _=>⟨u.slots,k b u q⟩
 free:=λb u q n _=>by rw[AG (x6 (yC (xj q) z))];exact n
 there:=λb u q _=>⟨u,k b u q⟩
 eD:=λb xs q=>by rw[AG (AH q j)];exact q
 ZO:=λb u xs q=>by rw[AG (AH q j)];exact q
 dj:=λb ps q=>⟨#[],by rw[AG (AH q j),q];simp⟩
theorem Un.write(B:pO (H x))(N:e=x\/H e=some (.own x))(k:∀b u,b≠e->h.get? b=some u->h'.get? b=some u)(I:∃u,h'.get? e=some u):Un fs ex H (upd H x o) h h':=by
 have L:∀b,H b=none->b≠x:=λb n z=>by subst z;rw[n]at B;exact B
 have M:∀b,H b=none->b≠e:=λb n z=>by
  subst z;rcases N with r|r
  .exact L b n r
  .rw[n]at r;cases r
 have J:∀b u,H b=some u->¬pO (some u)->b≠x:=λb u q nm z=>by subst z;rw[q]at B;exact nm B
 refine⟨λb u q n _ _=>k b u (M b n) q,λb u q n _ _=>⟨u.slots,k b u (M b n) q⟩,λb u q n _=>by rw[AG (L b n)];exact n,λb u q _=>?_,
  λb xs q=>by rw[AG (J b _ q λz=>z)];exact q,λb u xs q=>by rw[AG (J b _ q λz=>z)];exact q,λb ps q=>⟨#[],by rw[AG (J b _ q λz=>z),q];simp⟩⟩
 by_cases j:b=e
 .subst j;exact I
 .exact⟨u,k b u j q⟩
end
noncomputable def uv(h:Heap)(H:Hp):List Addr:=(List.range h.objs.size).filter λa=>(H a).isSome
def Ya(h:Heap)(H:Hp):Heap:=PySem.W.hideAll h (uv h H)
theorem iY(h:Heap)(H:Hp):(Ya h H).objs.size=h.objs.size:=PySem.W.hideAll_size _ _
theorem kg(e:h.get? b=some o)(n:H b=none):(Ya h H).get? b=some o:=
 PySem.W.hideAll_get _ e λj=>by have q:(H b).isSome=true:=(yH.mp j).2;rw[n]at q;simp at q
theorem pE(e:(Ya h H).get? b=some o):h.get? b=some o/\H b=none:=by
 have j:h.get? b=some o:=PySem.W.of_hideAll (uv h H) e;refine⟨j,?_⟩;cases q:H b with
 |none=>rfl
 |some x=>have n:b∈uv h H:=yH.mpr ⟨yZ.mpr (xj j),by simp[q]⟩;have z:(Ya h H).get? b=none:=PySem.W.hideAll_none (uv h H) n;rw[z]at e;cases e
noncomputable def nB(g h:Heap)(L:Addr):List (Addr×Obj):=(List.range h.objs.size).filterMap λa=>if a=L\/(g.get? a).isSome=true then none else(h.get? a).map λo=>(a,o)
def rest(g h:Heap)(L d:Addr):List (Addr×Obj):=(nB g h L).filter λp=>decide (p.1≠d)
structure Mod(K:PySem.W.Frag)(mg:Str->Option Value)(base:Heap):Prop where
 uT:K.In base
 glob:base.Ns mainGlobals mg
 blt:∃mb,base.Ns builtinsNs mb/\∀x:Str,x≠"__name__"->mb x=bootBuiltins x
 nolimit:base.NoLimit
structure Cx where
 prog:Program
 w:World
 K:PySem.W.Frag
 mg:Str->Option Value
 base:Heap
 A:Around
 N:List Str
 Zg:Shared
 rh:Hp
 env:Env
 outer:List Env
 stack:List Env
 ex:List Addr
 fn:Str->Bool
 calm:Bool
 pn:List (Addr×Obj)
 xe:Value->Shared->Prop
noncomputable def mE(l:List Env):List Addr:=l.filterMap (·.frame)
abbrev Cx.fs(X:Cx):List Addr:=mE X.outer
def uA(j:Scope)(x:Str):Prop:=j.names.lookup x=some .local\/j.names.lookup x=some .cell\/j.names.lookup x=some .free
def Loc(j:Scope)(x:Str):Prop:=j.names.lookup x=some .local\/j.names.lookup x=some .cell
def Look(j:Env)(h:Heap)(m:Str->Option Value)(x:Str)(u:Value):Prop:=
 (j.kindOf x=some .local/\m x=some u)\/((j.kindOf x=some .cell\/j.kindOf x=some .free)/\∃c,j.cells.lookup x=some c/\h.IsCell c (some u))
structure Cx.Ok(X:Cx):Prop where
 mod:Mod X.K X.mg X.base
 kind:X.env.scope.kind=.function
 glob:X.env.globals=mainGlobals
 blt:X.env.builtins=builtinsNs
 above:X.Zg.heap.objs.size<=X.env.locals
 inj:∀x y c,X.env.cells.lookup x=some c->X.env.cells.lookup y=some c->x=y
 has:∀x,(X.env.kindOf x=some .cell\/X.env.kindOf x=some .free)->∃c,X.env.cells.lookup x=some c
 uD:∀x c,X.fn x=true->X.env.cells.lookup x=some c->X.Zg.heap.objs.size<=c
 hd:X.calm=true->X.A.handled=none
 frames:X.A.frames=some X.stack
 ux:X.stack=X.outer\/(X.stack=X.env::X.outer/\X.env.frame=some X.env.locals)
 vA:∀b∈X.ex,b≠X.env.locals/\∀x c,X.env.cells.lookup x=some c->c≠b
 bs:∀b o,X.base.get? b=some o->X.Zg.heap.get? b=some o/\X.rh b=none
 kT:X.base.objs.size<=X.Zg.heap.objs.size
 ke:∀b o,X.base.get? b=some o->b∉X.ex
 kl:∀b∈X.ex,b∉X.fs
 Q8:X.Zg.heap.FunFrames X.base X.outer
 qD:∀b∈X.fs,X.rh b=none
structure Inv(X:Cx)(pins:List (Addr×Obj))(σ:List (Option V))(H:Hp)(s:Shared):Prop where
 ok:X.Ok
 os:s.os=X.Zg.os
 bare:AllBare s.gens
 base:Un X.fs X.ex X.rh H X.Zg.heap s.heap
 loc:∃m,s.heap.Ns X.env.locals m/\∀(i:Nat)(x:Str)(v:V),X.N[i]?=some x->σ[i]?=some (some v)->uA X.env.scope x->∃u,RelV v u/\Look X.env s.heap m x u
 cell:∀x c,X.env.cells.lookup x=some c->∃v,s.heap.IsCell c v
 free:H X.env.locals=none
 Hr:∀x c,X.env.cells.lookup x=some c->H c=none
 pin:∀p∈X.pn++pins,s.heap.get? p.1=some p.2/\H p.1=none/\p.1≠X.env.locals/\p.1∉X.fs/\∀v,p.2.data≠ .cell v
 Cb:Kw X.prog X.w H s.heap
 len:σ.length=X.N.length
section
variable{X:Cx}{pins:List (Addr×Obj)}{σ:List (Option V)}{H H':Hp}{s:Shared}{h':Heap}
theorem Cx.Ok.vD(ok:X.Ok)(e:X.base.get? b=some o):b∉X.fs:=λj=>by have:=(ok.Q8.mem j).1;rw[e]at this;cases this
theorem Inv.bs(I:Inv X pins σ H s):∀b o,X.base.get? b=some o->s.heap.get? b=some o/\H b=none:=λb o e=>
 ⟨I.base.keep b o (I.ok.bs b o e).1 (I.ok.bs b o e).2 (I.ok.vD e) (I.ok.ke b o e),I.base.free b o (I.ok.bs b o e).1 (I.ok.bs b o e).2 (I.ok.ke b o e)⟩
theorem Inv.bk(I:Inv X pins σ H s):∀b o,X.base.get? b=some o->s.heap.get? b=some o:=λb o e=>(I.bs b o e).1
theorem Inv.mod(I:Inv X pins σ H s):Mod X.K X.mg X.base:=I.ok.mod
theorem Inv.WL(I:Inv X pins σ H s):X.K.In s.heap:=I.ok.mod.uT.keeps I.bk
theorem Inv.fr(I:Inv X pins σ H s):∃m,Fr X.base X.env.locals s.heap m:=
 let⟨m,j,_⟩:=I.loc
 ⟨m,j,I.bk,xr I.ok.kT I.ok.above⟩
theorem Inv.lt(I:Inv X pins σ H s):X.env.locals<s.heap.objs.size:=let⟨_,j,_⟩:=I.loc;j.lt
theorem Inv.sz(I:Inv X pins σ H s):X.Zg.heap.objs.size<=s.heap.objs.size:=xr I.ok.above (AAP I.lt)
theorem Inv.vf(I:Inv X pins σ H s)(h:s.heap.objs.size<=a):a∉X.fs:=λj=>by obtain⟨_,o,n,_⟩:=I.ok.Q8.mem j;exact absurd (yC (xj n) (xr I.sz h)) (y8 _)
theorem Inv.qK(I:Inv X pins σ H s):∀x c,X.env.cells.lookup x=some c->c≠X.env.locals:=λx c e z=>by obtain⟨v,o,q,hd⟩:=I.cell x c e;obtain⟨m,⟨o',es,ep,j,n,_⟩,_⟩:=I.loc;rw[z,j]at q;cases q;rw[n]at hd;cases hd
theorem Inv.Q8(I:Inv X pins σ H s):s.heap.FunFrames X.base X.outer:=by
 have all:∀(l:List Env),(∀b∈mE l,b∈X.fs)->X.Zg.heap.FunFrames X.base l->s.heap.FunFrames X.base l:=by
  intro l
  induction l with
  |nil=>intro _ _;trivial
  |cons J r M=>intro B N;obtain⟨O,⟨L,o,j,U,Y,hd⟩,hr⟩:=N;have n:L∈X.fs:=B L (by unfold mE;rw[zf,j];exact xl);obtain⟨sl,e⟩:=I.base.slot L o Y (I.ok.qD L n) n λz=>I.ok.kl L z n;exact⟨O,⟨L,_,j,U,e,hd⟩,M (λb q=>B b (by unfold mE;rw[zf,j];exact xY _ q)) hr⟩
 exact all X.outer (λ_ q=>q) I.ok.Q8
theorem Inv.stack(I:Inv X pins σ H s):s.heap.FunFrames X.base X.stack:=by
 rcases I.ok.ux with e|⟨e,j⟩
 .rw[e];exact I.Q8
 .rw[e];obtain⟨m,n,_⟩:=I.loc;refine .cons (by rw[I.ok.kind];decide) j n ?_ I.Q8;exact Heap.get?_none_of_le (xr I.ok.kT I.ok.above)
theorem Inv.d6(I:Inv X pins σ H s):∀b∈mE X.stack,b∈X.env.locals::X.fs:=λb j=>by
 rcases I.ok.ux with e|⟨e,n⟩
 .rw[e]at j;exact xY _ j
 .rw[e]at j;unfold mE at j;rw[zf,n]at j;exact j
theorem Inv.gM(I:Inv X pins σ H s):∀b∈mE X.stack,H b=none:=λb j=>by
 rcases xb.mp (I.d6 b j)with e|j
 .rw[e];exact I.free
 .obtain⟨_,o,n,_⟩:=I.ok.Q8.mem j;exact I.base.free b o n (I.ok.qD b j) λz=>I.ok.kl b z j
theorem Inv.step{g':Array GenState}{t':Nat}{d':Drawn}{ch:List Addr}(I:Inv X pins σ H s)
  (B:∀b∈ch,(b∈X.ex\/X.Zg.heap.objs.size<=b)/\b≠X.env.locals/\(∀x c,X.env.cells.lookup x=some c->c≠b)/\∀p∈X.pn++pins,p.1≠b)
  (keep:∀b o,b≠X.env.locals->b∉X.fs->b∉ch->s.heap.get? b=some o->H b=none->h'.get? b=some o)
  (slot:∀b o,b≠X.env.locals->b∈X.fs->b∉ch->s.heap.get? b=some o->H b=none->∃sl,h'.get? b=some {o with slots:=sl}) (free:∀b o,b∉ch->s.heap.get? b=some o->H b=none->H' b=none)
  (there:∀b o,b∉ch->s.heap.get? b=some o->∃o',h'.get? b=some o')
  (U:∀b xs,H b=some (.tup xs)->H' b=some (.tup xs)) (Y:∀b o u,H b=some (.frz o u)->H' b=some (.frz o u)) (aa:∀b ps,H b=some (.tbl ps)->∃more,H' b=some (.tbl (ps++more)))
  (ns:∀m,s.heap.Ns X.env.locals m->h'.Ns X.env.locals m) (ae:Kw X.prog X.w H' h') (hg:AllBare g'):
  Inv X pins σ H' {s with heap:=h',gens:=g',drawn:=d',toks:=t'}:=by
 have ab:∀b o,X.Zg.heap.get? b=some o->b≠X.env.locals:=λb o e=>x6 (yC (xj e) I.ok.above);have M:∀b o,X.Zg.heap.get? b=some o->b∉X.ex->b∉ch:=λb o e j N=>by
  rcases(B b N).1 with z|z
  .exact j z
  .exact absurd (yC (xj e) z) (y8 _)
 have J:∀x c,X.env.cells.lookup x=some c->∀v,s.heap.IsCell c v->h'.IsCell c v:=λx c e v⟨o,O,hd⟩=>by
  have L:c∉ch:=λz=>(B c z).2.2.1 x c e rfl;by_cases hc:c∈X.fs
  .obtain⟨sl,q⟩:=slot c o (I.qK x c e) hc L O (I.Hr x c e);exact⟨_,q,hd⟩
  .exact⟨o,keep c o (I.qK x c e) hc L O (I.Hr x c e),hd⟩
 refine⟨I.ok,I.os,hg,⟨λb o e n N j=>?_,λb o e n N j=>?_,λb o e n j=>?_,λb o e j=>?_,λb xs e=>U b xs (I.base.eD b xs e),λb o xs e=>Y b o xs (I.base.ZO b o xs e),λb ps e=>?_⟩,?_,λx c e=>?_,?_,λx c e=>?_,λp hp=>?_,ae,I.len⟩
 .exact keep b o (ab b o e) N (M b o e j) (I.base.keep b o e n N j) (I.base.free b o e n j)
 .obtain⟨sl,e1⟩:=I.base.slot b o e n N j;obtain⟨af,e2⟩:=slot b _ (ab b o e) N (M b o e j) e1 (I.base.free b o e n j);exact⟨af,e2⟩
 .obtain⟨o',e1⟩:=I.base.there b o e j;exact free b o' (M b o e j) e1 (I.base.free b o e n j)
 .obtain⟨o',e1⟩:=I.base.there b o e j;exact there b o' (M b o e j) e1
 .obtain⟨m1,e1⟩:=I.base.dj b ps e;obtain⟨m2,e2⟩:=aa b _ e1;exact⟨m1++m2,by rw[e2,Array.append_assoc]⟩
 .obtain⟨m,hn,hl⟩:=I.loc;refine⟨m,ns m hn,λi x v e1 e2 e3=>?_⟩;obtain⟨u,r,l⟩:=hl i x v e1 e2 e3;refine⟨u,r,?_⟩;rcases l with l|⟨k,c,e,z⟩
  .exact .inl l
  .exact .inr ⟨k,c,e,J x c e _ z⟩
 .obtain⟨v,z⟩:=I.cell x c e;exact⟨v,J x c e v z⟩
 .obtain⟨m,⟨o,_,_,O,_⟩,_⟩:=I.loc;exact free _ o (λz=>(B _ z).2.1 rfl) O I.free
 .obtain⟨v,o,O,hd⟩:=I.cell x c e;exact free c o (λz=>(B c z).2.2.1 x c e rfl) O (I.Hr x c e)
 .obtain⟨e,n,ne,nf,d⟩:=I.pin p hp;have L:p.1∉ch:=λz=>(B p.1 z).2.2.2 p hp rfl;exact⟨keep p.1 p.2 ne nf L e n,free p.1 p.2 L e n,ne,nf,d⟩
theorem Inv.un{t':Nat}(I:Inv X pins σ H s)(u:Un X.fs [] H H' s.heap h')(q:Kw X.prog X.w H' h'):Inv X pins σ H' {s with heap:=h',toks:=t'}:=by
 obtain⟨m,⟨o,es,ep,L,r⟩,_⟩:=id I.loc;obtain⟨U,M⟩:=u.any L I.free (by simp);exact I.step (g':=s.gens) (d':=s.drawn) (ch:=[]) (λ_ z=>nomatch z) (λb o _ B _ e n=>u.keep b o e n B (by simp)) (λb o _ B _ e n=>u.slot b o e n B (by simp)) (λb o _ e n=>u.free b o e n (by simp)) (λb o _ e=>u.there b o e (by simp)) u.eD u.ZO u.dj (λY N=>by
  obtain⟨o',es',J,j,O⟩:=N;rw[L]at j;cases j;exact⟨_,es',J,M,O⟩) q I.bare
theorem Inv.call{g':Array GenState}{t':Nat}{d':Drawn}{ch:List Addr}(I:Inv X pins σ H s)(u:Un (mE X.stack) ch H H' s.heap h')(J:Kw X.prog X.w H' h')(O:AllBare g')
  (q:∀b∈ch,(b∈X.ex\/X.Zg.heap.objs.size<=b)/\b≠X.env.locals/\(∀x c,X.env.cells.lookup x=some c->c≠b)/\∀p∈X.pn++pins,p.1≠b):
  Inv X pins σ H' {s with heap:=h',gens:=g',drawn:=d',toks:=t'}:=by
 obtain⟨m,⟨o,es,ep,N,r⟩,_⟩:=id I.loc;obtain⟨sl,L⟩:=u.any N I.free λz=>(q _ z).2.1 rfl;exact I.step (ch:=ch) q (λb o L U j e n=>u.keep b o e n (λz=>(xb.mp (I.d6 b z)).elim L U) j) (λb o _ _ j e n=>u.any e n j) (λb o j e n=>u.free b o e n j) (λb o j e=>u.there b o e j) u.eD u.ZO u.dj (λm' Y=>by
  obtain⟨o',es',M,B,r'⟩:=Y;rw[N]at B;cases B;exact⟨_,es',M,L,r'⟩) J O
theorem Inv.turned{t':Nat}{j:Addr}(I:Inv X pins σ H s)(k:∀b o,b≠j->s.heap.get? b=some o->h'.get? b=some o)(M:H j=none)(L:j≠X.env.locals)
  (h1:j∈X.ex\/X.Zg.heap.objs.size<=j) (h2:∀x c,X.env.cells.lookup x=some c->c≠j) (N:∀p∈X.pn++pins,p.1≠j):Inv X pins σ H {s with heap:=h',toks:=t'}:=by
 have J:∀b u,H b=some u->b≠j:=λb u e z=>by rw[z,M]at e;cases e
 refine I.step (g':=s.gens) (d':=s.drawn) (ch:=[j]) (λb O=>?_) (λb o _ _ B e _=>k b o (λz=>B (by simp[z])) e) (λb o _ _ B e _=>⟨o.slots,k b o (λz=>B (by simp[z])) e⟩) (λ_ _ _ _ n=>n)
  (λb o B e=>⟨o,k b o (λz=>B (by simp[z])) e⟩) (λ_ _ e=>e) (λ_ _ _ e=>e) (λb ps e=>⟨#[],by rw[e];simp⟩) (λm U=>?_) (λb u e=>?_) I.bare
 .have e:b=j:=by simpa using O
  subst e;exact⟨h1,L,h2,N⟩
 .obtain⟨o,es,ep,Y,r⟩:=U;exact⟨o,es,ep,k _ o (x8 L) Y,r⟩
 .refine(I.Cb b u e).RI (λc v B q=>k c v ?_ q) (λ_ q=>q) λ_ _ q=>q;rcases B with z|z
  .rw[z];exact J b u e
  .exact J c _ z
theorem Inv.tok(I:Inv X pins σ H s)(t:Nat):Inv X pins σ H {s with toks:=t}:=I.un (h':=s.heap) (t':=t) Un.refl I.Cb
theorem Inv.kept(I:Inv X pins σ H s)(k:∀b u,s.heap.get? b=some u->h'.get? b=some u):Inv X pins σ H {s with heap:=h',toks:=t'}:=I.un (Un.kept k) (I.Cb.kept k)
theorem Inv.laid(I:Inv X pins σ H s)(k:∀b u,s.heap.get? b=some u->h'.get? b=some u)(j:s.heap.objs.size<=a)(new:CC X.prog X.w (upd H a o) h' a o):
  Inv X pins σ (upd H a o) {s with heap:=h',toks:=t'}:=I.un (Un.laid k j (I.Cb.fresh j)) (I.Cb.laid k j new)
theorem Inv.write(I:Inv X pins σ H s)(n:pO (H x))(q:e=x\/H e=some (.own x))(k:∀b u,b≠e->s.heap.get? b=some u->h'.get? b=some u)(j:∃u,h'.get? e=some u)
  (new:CC X.prog X.w (upd H x o) h' x o):Inv X pins σ (upd H x o) {s with heap:=h',toks:=t'}:=I.un (Un.write n q k j) (I.Cb.write n q k j new)
theorem Inv.weak(I:Inv X pins σ H s)(q:j.length=σ.length)(w:∀(i:Nat)v,j[i]?=some (some v)->σ[i]?=some (some v)):Inv X pins j H s:=
 ⟨I.ok,I.os,I.bare,I.base,let⟨m,z,n⟩:=I.loc;⟨m,z,λi x v e1 B J=>n i x v e1 (w i v B) J⟩,I.cell,I.free,I.Hr,I.pin,I.Cb,q.trans I.len⟩
theorem Inv.gL(I:Inv X pins σ H s)(h:∀p∈j,s.heap.get? p.1=some p.2/\H p.1=none/\p.1≠X.env.locals/\p.1∉X.fs/\∀v,p.2.data≠ .cell v):Inv X j σ H s:=
 ⟨I.ok,I.os,I.bare,I.base,I.loc,I.cell,I.free,I.Hr,λp n=>(xq.mp n).elim (λz=>I.pin p (y3 _ z)) (h p),I.Cb,I.len⟩
theorem Tu{N:List Str}(n:N.Nodup){i j:Nat}{x:Str}(a:N[i]?=some x)(b:N[j]?=some x):i=j:=by obtain⟨h1,e1⟩:=xP.mp a;obtain⟨h2,q⟩:=xP.mp b;exact(List.getElem_inj n).mp (e1.trans q.symm)
theorem Xg{M:Model}{A:Around}{E:Value->Shared->Prop}{i:Nat}{x:Str}{v:V}{u:Value}{Q:Unit->Shared->Prop}(I:Inv X pins σ H s)(hN:X.N.Nodup)(hi:X.N[i]?=some x)(N:Loc X.env.scope x)(r:RelV v u)
  (h:∀s',Inv X pins (σ.set i (some v)) H s'->(∃a,Heap.SameBut a s.heap s'.heap/\(a=X.env.locals\/X.env.cells.lookup x=some a))->Q () s') (hf:X.fn x=true\/X.env.scope.names.lookup x=some .local:=by first|exact .inl rfl|exact .inr rfl|assumption):wpAny M A (storeName X.env x u) Q E s:=by
 obtain⟨m,hn,hl⟩:=id I.loc;have ab:(X.env.scope.kind==.class||(X.env.scope.kind==.module && X.env.locals !=X.env.globals))=false:=by rw[I.ok.kind];rfl
 have Y:i<σ.length:=by rw[I.len];exact(xP.mp hi).1
 have qK:=I.qK;have J:∀{a:Addr}{h':Heap},(∃o,s.heap.get? a=some o/\H a=none)->Heap.SameBut a s.heap h'->Kw X.prog X.w H h':=λ{a h'}ha B b ob e=>by
  obtain⟨_,_,O⟩:=ha;refine(I.Cb b ob e).RI (λc w' L q=>(B.2 c ?_).trans q) (λ_ q=>q) λ_ _ q=>q;rintro rfl;rcases L with rfl|L
  .rw[O]at e;cases e
  .rw[O]at L;cases L
 rcases N with hk|hk
 .refine wpAny_storeName_local hk hn (λh' ai B=>?_) ab;obtain⟨oL,_,_,aj,_⟩:=id hn;refine h _ ⟨I.ok,I.os,I.bare,⟨λb o e n hb N=>?_,λb o e n hb N=>?_,I.base.free,λb o e N=>?_,I.base.eD,I.base.ZO,I.base.dj⟩,⟨_,ai,λj y v' e1 U e3=>?_⟩,λy c e=>?_,I.free,I.Hr,λp hp=>?_,J ⟨oL,aj,I.free⟩ B,by simpa using I.len⟩ ⟨_,B,.inl rfl⟩
  .exact(B.2 b (x6 (yC (xj e) I.ok.above))).trans (I.base.keep b o e n hb N)
  .obtain⟨sl,e1⟩:=I.base.slot b o e n hb N;exact⟨sl,(B.2 b (x6 (yC (xj e) I.ok.above))).trans e1⟩
  .obtain⟨o',e1⟩:=I.base.there b o e N;exact⟨o',(B.2 b (x6 (yC (xj e) I.ok.above))).trans e1⟩
  .by_cases hj:j=i
   .subst hj;rw[hi]at e1;cases e1;rw[AAw Y]at U;cases U;exact⟨u,r,.inl ⟨hk,by simp⟩⟩
   .rw[ABA (x8 hj)]at U;obtain⟨u',r',q⟩:=hl j y v' e1 U e3;refine⟨u',r',?_⟩;rcases q with⟨k,e⟩|⟨k,c,e,z⟩
    .refine .inl ⟨k,?_⟩;have:y≠x:=λe=>hj (Tu hN e1 (e▸hi));simp[this,e]
    .exact .inr ⟨k,c,e,z.sameBut B (qK y c e)⟩
  .obtain⟨w',z⟩:=I.cell y c e;exact⟨w',z.sameBut B (qK y c e)⟩
  .obtain⟨e,n,ne,nf,d⟩:=I.pin p hp;exact⟨(B.2 p.1 ne).trans e,n,ne,nf,d⟩
 .have aa:X.fn x=true:=by
   rcases hf with z|z
   .exact z
   .rw[z]at hk;cases hk
  obtain⟨c,L⟩:=I.ok.has x (.inl hk);obtain⟨w',z⟩:=I.cell x c L;refine wpAny_storeName_cell I.ok.kind hk L z (λh' ae B=>?_);obtain⟨oc,af,ag⟩:=id z;refine h {s with heap:=h'} ⟨I.ok,I.os,I.bare,⟨λb o e n hb N=>?_,λb o e n hb N=>?_,I.base.free,λb o e N=>?_,I.base.eD,I.base.ZO,I.base.dj⟩,⟨m,hn.sameBut B (x8 (qK x c L)),λj y v' e1 U e3=>?_⟩,λy c' e=>?_,I.free,I.Hr,λp hp=>?_,J ⟨oc,af,I.Hr x c L⟩ B,by simpa using I.len⟩ ⟨c,B,.inr L⟩
  .exact(B.2 b (x6 (yC (xj e) (I.ok.uD x c aa L)))).trans (I.base.keep b o e n hb N)
  .obtain⟨sl,e1⟩:=I.base.slot b o e n hb N;exact⟨sl,(B.2 b (x6 (yC (xj e) (I.ok.uD x c aa L)))).trans e1⟩
  .obtain⟨o',e1⟩:=I.base.there b o e N;exact⟨o',(B.2 b (x6 (yC (xj e) (I.ok.uD x c aa L)))).trans e1⟩
  .by_cases hj:j=i
   .subst hj;rw[hi]at e1;cases e1;rw[AAw Y]at U;cases U;exact⟨u,r,.inr ⟨.inl hk,c,L,ae⟩⟩
   .rw[ABA (x8 hj)]at U;obtain⟨u',r',q⟩:=hl j y v' e1 U e3;refine⟨u',r',?_⟩;rcases q with q|⟨k,c',e,z'⟩
    .exact .inl q
    .refine .inr ⟨k,c',e,z'.sameBut B ?_⟩;rintro rfl;exact hj (Tu hN e1 (I.ok.inj _ _ _ e L▸hi))
  .by_cases ah:c'=c
   .subst ah;exact⟨_,ae⟩
   .obtain⟨w2,z2⟩:=I.cell y c' e;exact⟨w2,z2.sameBut B ah⟩
  .obtain⟨e,n,ne,nf,d⟩:=I.pin p hp;refine⟨(B.2 p.1 ?_).trans e,n,ne,nf,d⟩;intro q;rw[q,af]at e;have q':oc=p.2:=xn e;exact d w' (by rw[<-q'];exact ag)
theorem Z1(I:Inv X pins σ H s)(j:X.N.Nodup)(hi:X.N[i]?=some x)(n:Loc X.env.scope x)(r:RelV v u)
  (h:∀s',Inv X pins (σ.set i (some v)) H s'->Q () s') (q:X.fn x=true\/X.env.scope.names.lookup x=some .local:=by first|exact .inl rfl|exact .inr rfl|assumption):wpAny M A (storeName X.env x u) Q E s:=
 Xg I j hi n r (λs' z _=>h s' z) q
theorem Inv.ub(I:Inv X pins σ H s)(q:s'.os=s.os)(u:Un (mE X.stack) ch H H' s.heap s'.heap)(j:Kw X.prog X.w H' s'.heap)(z:AllBare s'.gens)
  (n:∀b∈ch,(b∈X.ex\/X.Zg.heap.objs.size<=b)/\b≠X.env.locals/\(∀x c,X.env.cells.lookup x=some c->c≠b)/\∀p∈X.pn++pins,p.1≠b):Inv X pins σ H' s':=by
 obtain⟨h',g',d',t',o'⟩:=s';have e:o'=s.os:=q;subst e;exact I.call (g':=g') (t':=t') (d':=d') u j z n
end
abbrev XK:=Value->Option Addr->Hp->Prop
abbrev St:=List (Option V)
abbrev VK:=V->Hp->Prop
abbrev TE:=St->Hp->VK->Prop
abbrev TT:=St->Hp->(Bool->Hp->Prop)->Prop
abbrev TA:=St->Hp->(List V->Hp->Prop)->Prop
structure Ends where
 nx:St->Hp->Prop
 rt:VK
 bk:St->Hp->Prop:=λ_ _=>False
 ct:St->Hp->Prop:=λ_ _=>False
abbrev TS:=Ends->St->Hp->Prop
inductive EP(X:Cx)(pins:List (Addr×Obj))(σ:St)(Q:VK)(u:Value)(s':Shared):Prop
 |mk (v H') (_:Inv X pins σ H' s') (_:RelV v u) (_:Q v H')
inductive TP(X:Cx)(pins:List (Addr×Obj))(σ:St)(Q:Bool->Hp->Prop)(b:Bool)(s':Shared):Prop
 |mk (H') (_:Inv X pins σ H' s') (_:Q b H')
inductive AP(X:Cx)(pins:List (Addr×Obj))(σ:St)(Q:List V->Hp->Prop)(us:List Value)(s':Shared):Prop
 |mk (vs H') (_:Inv X pins σ H' s') (_:Vals vs us) (_:Q vs H')
def SP(X:Cx)(pins:List (Addr×Obj))(D:Ends)(f:Flow)(s':Shared):Prop:=
 match f with
 | .next=>∃j H',Inv X pins j H' s'/\D.nx j H'
 | .brk=>∃j H',Inv X pins j H' s'/\D.bk j H'
 | .cont=>∃j H',Inv X pins j H' s'/\D.ct j H'
 | .ret u=>∃v j H',Inv X pins j H' s'/\RelV v u/\D.rt v H'
def PE(X:Cx)(e:Expr)(t:TE):Prop:=
 ∀(pins:List (Addr×Obj))(s:Shared)(σ:St)(H:Hp)(Q:VK),Inv X pins σ H s->t σ H Q->wpAny (model X.prog X.w) X.A (eval e X.env) (EP X pins σ Q) X.xe s
def PT(X:Cx)(e:Expr)(t:TT):Prop:=
 ∀(pins:List (Addr×Obj))(s:Shared)(σ:St)(H:Hp)(Q:Bool->Hp->Prop),Inv X pins σ H s->t σ H Q->wpAny (model X.prog X.w) X.A (isTrue e X.env (eval e X.env)) (TP X pins σ Q) X.xe s
def PW(X:Cx)(e:Expr)(t:TT):Prop:=
 ∀(whole:Sem Value)(pins:List (Addr×Obj))(s:Shared)(σ:St)(H:Hp)(Q:Bool->Hp->Prop),Inv X pins σ H s->t σ H Q->wpAny (model X.prog X.w) X.A (isTrue e X.env whole) (TP X pins σ Q) X.xe s
theorem PW.pt{X:Cx}{e:Expr}{t:TT}(h:PW X e t):PT X e t:=h _
def PA(X:Cx)(es:List Expr)(t:TA):Prop:=
 ∀(pos:Pos)(pins:List (Addr×Obj))(s:Shared)(σ:St)(H:Hp)(Q:List V->Hp->Prop),Inv X pins σ H s->t σ H Q->wpAny (model X.prog X.w) X.A (spliced (backTo pos (starEach es X.env))) (AP X pins σ Q) X.xe s
def PS(X:Cx)(st:Stmt)(t:TS):Prop:=
 ∀(pins:List (Addr×Obj))(s:Shared)(σ:St)(H:Hp)(D:Ends),Inv X pins σ H s->t D σ H->wpAny (model X.prog X.w) X.A (exec st X.env) (SP X pins D) X.xe s
def gX(X:Cx)(st:List Stmt)(t:TS):Prop:=
 ∀(pins:List (Addr×Obj))(s:Shared)(σ:St)(H:Hp)(D:Ends),Inv X pins σ H s->t D σ H->wpAny (model X.prog X.w) X.A (execs st X.env) (SP X pins D) X.xe s
theorem Bw(h:wpAny M A t Q E s)(j:∀a s,Q a s->n a s):wpAny M A t n E s:=y4 h j λ_ _ x=>x
section
variable{X:Cx}
theorem bin{a b:Expr}{ta tb:TE}(z:PE X a ta)(B:PE X b tb){pins:List (Addr×Obj)}{s:Shared}{σ:St}{H:Hp}{R:V->V->Hp->Prop}(I:Inv X pins σ H s)(h:ta σ H λx H1=>tb σ H1 λy H2=>R x y H2)
  {q:Type} {Q:q->Shared->Prop} {f:Value->Value->Sem q}
  (J:∀v u n x y H2,Inv X pins σ H2 n->RelV x v->RelV y u->R x y H2->wpAny (model X.prog X.w) X.A (f v u) Q X.xe n):
  wpAny (model X.prog X.w) X.A (eval a X.env) (λv s₁=>wpAny (model X.prog X.w) X.A (eval b X.env) (λu j=>wpAny (model X.prog X.w) X.A (f v u) Q X.xe j) X.xe s₁) X.xe s:=by
 refine Bw (z pins s σ H _ I h) λv L⟨x,H1,M,N,O⟩=>?_;refine Bw (B pins L σ H1 _ M O) λu n⟨y,H2,U,Y,q2⟩=>?_;exact J v u n x y H2 U N Y q2
inductive tF(i:Nat)(σ:St)(H:Hp)(Q:VK):Prop
 |mk (v) (_:σ[i]?=some (some v)) (_:Q v H)
def tC(v:V):TE:=λ_ H Q=>Q v H
theorem rP(B:X.N[i]?=some x)(J:uA X.env.scope x)(hd:(x==("__debug__":Str))=false:=by decide)(q:(x==("__classdict__":Str))=false:=by decide):PE X (.Name x pos) (tF i):=by
 intro pins s σ H Q I h;obtain⟨v,e,h⟩:=h;obtain⟨m,L,M⟩:=I.loc;obtain⟨u,r,l⟩:=M i x v B e J;have fin:EP X pins σ Q u s:=⟨v,H,I,r,h⟩;rcases l with⟨n,N⟩|⟨n,c,z,j⟩
 .exact wpAny_Name (wpAny_loadName_local I.ok.kind n L N fin) hd
 .rcases n with n|n
  .exact wpAny_Name (wpAny_loadName_cell I.ok.kind n z j fin) hd
  .exact wpAny_Name (wpAny_loadName_free I.ok.kind n z j fin q) hd
theorem AL{i j pos}:PE X (.Constant (.int i) j pos) (tC (.int i)):=λ_ _ _ H _ I h=>wpAny_Constant_int ⟨.int i,H,I.tok _,⟨_,rfl⟩,h⟩
theorem DN{b j pos}:PE X (.Constant (.bool b) j pos) (tC (.bl b)):=λ_ _ _ H _ I h=>Constant_bool ⟨.bl b,H,I,rfl,h⟩
theorem B9{j pos}:PE X (.Constant .none j pos) (tC .non):=λ_ _ _ H _ I h=>Constant_none ⟨.non,H,I,rfl,h⟩
theorem rB{x j pos}:PE X (.Constant (.str x) j pos) (tC (.str x)):=λ_ _ _ H _ I h=>Calls.Constant_str ⟨.str x,H,I.tok _,⟨_,rfl⟩,h⟩
def Gl(X:Cx)(x:Str):Prop:=X.env.kindOf x=some .globalImplicit
theorem Qh(I:Inv X pins σ H s)(j:Gl X x)(n:X.mg x=some u)(h:Q u s)
  (hd:(x==("__debug__":Str))=false:=by decide):wpAny (model X.prog X.w) X.A (eval (.Name x pos) X.env) Q E s:=
 Calls.Name_function_global I.ok.kind j (Calls.loadGlobal_global (by rw[I.ok.glob];exact I.mod.glob.keeps I.bk) n h) hd
theorem Lv(I:Inv X pins σ H s)(j:Gl X x)(n:X.mg x=none)(q:bootBuiltins x=some u)(h:Q u s)
  (z:x≠"__name__":=by decide) (hd:(x==("__debug__":Str))=false:=by decide):wpAny (model X.prog X.w) X.A (eval (.Name x pos) X.env) Q E s:=by
 obtain⟨B,h1,h2⟩:=I.mod.blt;exact Calls.Name_function_global I.ok.kind j (Calls.loadGlobal_builtin (by rw[I.ok.glob];exact I.mod.glob.keeps I.bk) n (by rw[I.ok.blt];exact h1.keeps I.bk) ((h2 x z).trans q) h) hd
theorem CF(j:Gl X x)(n:X.mg x=some u)(r:RelV v u)(hd:(x==("__debug__":Str))=false:=by decide):PE X (.Name x pos) (tC v):=
 λ_ _ _ H _ I h=>Qh I j n ⟨v,H,I,r,h⟩ hd
variable{a b:Expr}{ta tb:TE}{pos:Pos}
def PC(X:Cx)(op:CmpOp)(a b:Expr)(t:TE):Prop:=
 ∀(pins:List (Addr×Obj))(s:Shared)(σ:St)(H:Hp)(Q:VK),Inv X pins σ H s->t σ H Q->
  wpAny (model X.prog X.w) X.A (eval a X.env) (λv s₁=>wpAny (model X.prog X.w) X.A (eval b X.env) (λu j=>wpAny (model X.prog X.w) X.A (compareOp op v u) (EP X pins σ Q) X.xe j) X.xe s₁) X.xe s
inductive wx(Q:Bool->Hp->Prop)(x:V)(H1:Hp):Prop
 |mk (c) (_:x=.bl c) (_:Q c H1)
def tB(t:TE):TT:=λσ H Q=>t σ H (wx Q)
theorem dr(h:PC X op a b t)(h1:behindInMarks op b=false:=by first|exact nobehind _ Dc Dc|rfl):PT X (.Compare a [op] [b] pos) (tB t):=by intro pins s σ H Q I j;refine wpAny_isTrue_Compare1 (Bw (h pins s σ H _ I j) λv J h1=>Bw h1 λu L h2=>Bw h2 λc M⟨x,H1,n,z,B⟩=>?_) h1;obtain⟨d,rfl,q⟩:=B;cases z;exact zA ⟨H1,n,q⟩
theorem A7(h:PE X e t)(j:∀whole,isTrue e X.env whole=(do let v<-whole;standAt e.pos;holding [v] (truthy v)):=by intro _;rfl):PT X e (tB t):=by intro pins s σ H Q I n;refine isTrue_plain (Bw (h pins s σ H _ I n) λv L⟨x,H1,z,B,J⟩=>?_) (j _);obtain⟨d,rfl,q⟩:=J;cases B;exact zA ⟨H1,z,q⟩
variable{tA tB':TT}{rest:List Expr}
def vi(t u:TT):TT:=λσ H Q=>t σ H λc H1=>if c=true then u σ H1 Q else Q false H1
def w8(t u:TT):TT:=λσ H Q=>t σ H λc H1=>if c=true then Q true H1 else u σ H1 Q
def ve(t:TT):TT:=λσ H Q=>t σ H λc H1=>Q (!c) H1
theorem GX(j:PT X a tA):PW X (.BoolOp .And [a] pos) tA:=by
 intro n pins s σ H Q I h;refine isTrue_and (Bw (j pins s σ H Q I h) λc q e=>?_);cases c with
 |true=>exact isTrue_and_nil e
 |false=>exact e
theorem DC(j:PT X a tA):PW X (.BoolOp .Or [a] pos) tA:=by
 intro n pins s σ H Q I h;refine isTrue_or (Bw (j pins s σ H Q I h) λc q e=>?_);cases c with
 |false=>exact isTrue_or_nil e
 |true=>exact e
theorem J2(q:PT X a tA)(z:PW X (.BoolOp .And (b::rest) pos) tB'):PW X (.BoolOp .And (a::b::rest) pos) (vi tA tB'):=by
 intro B pins s σ H Q I h;refine isTrue_and (Bw (q pins s σ H _ I h) λc J⟨H1,j,n⟩=>?_);cases c with
 |true=>exact z B pins J σ H1 Q j n
 |false=>exact⟨H1,j,n⟩
theorem Ds(q:PT X a tA)(z:PW X (.BoolOp .Or (b::rest) pos) tB'):PW X (.BoolOp .Or (a::b::rest) pos) (w8 tA tB'):=by
 intro B pins s σ H Q I h;refine isTrue_or (Bw (q pins s σ H _ I h) λc J⟨H1,j,n⟩=>?_);cases c with
 |true=>exact⟨H1,j,n⟩
 |false=>exact z B pins J σ H1 Q j n
theorem Ba(j:PT X a tA):PT X (.UnaryOp .Not a pos) (ve tA):=by intro pins s σ H Q I h;exact isTrue_not (Bw (j pins s σ H (λc H1=>Q (!c) H1) I h) λc z⟨H1,n,q⟩=>⟨H1,n,q⟩)
inductive sP(tb:TE)(σ:St)(Q:VK)(x:V)(H1:Hp):Prop
 |mk (c) (_:x=.bl c) (_:if c=true then tb σ H1 Q else Q (.bl false) H1)
def ue(ta tb:TE):TE:=λσ H Q=>ta σ H (sP tb σ Q)
inductive tY(tb:TE)(σ:St)(Q:VK)(x:V)(H1:Hp):Prop
 |mk (c) (_:x=.bl c) (_:if c=true then Q (.bl true) H1 else tb σ H1 Q)
def vp(ta tb:TE):TE:=λσ H Q=>ta σ H (tY tb σ Q)
theorem de{op}(h:PE X a t):PE X (.BoolOp op [a] pos) t:=λpins s σ H Q I j=>BoolOp_one (h pins s σ H Q I j)
theorem kD(q:PE X a ta)(z:PE X (.BoolOp .And (b::rest) pos) tb):PE X (.BoolOp .And (a::b::rest) pos) (ue ta tb):=by
 intro pins s σ H Q I h;refine BoolOp_and (Bw (q pins s σ H _ I h) λv B⟨x,H1,n,J,j⟩=>?_);obtain⟨c,rfl,j⟩:=j;cases J;refine zA ?_;cases c with
 |true=>exact z pins B σ H1 Q n j
 |false=>exact⟨.bl false,H1,n,rfl,j⟩
theorem uR(q:PE X a ta)(z:PE X (.BoolOp .Or (b::rest) pos) tb):PE X (.BoolOp .Or (a::b::rest) pos) (vp ta tb):=by
 intro pins s σ H Q I h;refine BoolOp_or (Bw (q pins s σ H _ I h) λv B⟨x,H1,n,J,j⟩=>?_);obtain⟨c,rfl,j⟩:=j;cases J;refine zA ?_;cases c with
 |false=>exact z pins B σ H1 Q n j
 |true=>exact⟨.bl true,H1,n,rfl,j⟩
def ph(t:TT)(ta tb:TE):TE:=λσ H Q=>t σ H λc H1=>if c=true then ta σ H1 Q else tb σ H1 Q
theorem Jb(z:PT X c tA)(B:PE X a ta)(J:PE X b tb):PE X (.IfExp c a b pos) (ph tA ta tb):=by
 intro pins s σ H Q I h;refine wpAny_IfExp (Bw (z pins s σ H _ I h) λd j⟨H1,n,q⟩=>?_);cases d with
 |true=>exact B pins j σ H1 Q n q
 |false=>exact J pins j σ H1 Q n q
end
def Ah(K:PySem.W.Frag)(H:Hp)(a:Addr)(xs:List V):Prop:=
 Rd H a (.lst xs)\/
  ∃(o:Obj)(its:Array Value)(n:Nat),K.lookup a=some o/\o.cls=.type "list"/\o.dict=none/\o.data=.seq its n/\its.size<=sizeLine/\Vals xs its.toList
def Cd(K:PySem.W.Frag)(H:Hp)(a:Addr)(xs:List V):Prop:=
 Rd H a (.tup xs)\/
  ∃(o:Obj)(its:Array Value)(n:Nat),K.lookup a=some o/\o.cls=.type "tuple"/\o.data=.seq its n/\its.size<=sizeLine/\Vals xs its.toList
noncomputable def vK:Value->Option V
 | .none=>some .non
 | .bool b=>some (.bl b)
 | .int i _=>some (.int i)
 | .str x _=>some (.str x)
 | .bytes b _=>some (.byt b)
 | .float b _=>some (.flt b)
 | .ref a=>some (.ref a)
 | .type n=>some (.ty n)
 |_=>none
theorem RelV.abs(r:RelV x u):vK u=some x:=by
 cases x with
 |non=>cases r;rfl
 |bl _=>cases r;rfl
 |int _=>obtain⟨t,rfl⟩:=r;rfl
 |str _=>obtain⟨t,rfl⟩:=r;rfl
 |byt _=>obtain⟨t,rfl⟩:=r;rfl
 |flt _=>obtain⟨t,rfl⟩:=r;rfl
 |ref _=>cases r;rfl
 |ty _=>cases r;rfl
theorem RelV.inj(r:RelV x u)(q:RelV y u):x=y:=xn (r.abs.symm.trans q.abs)
theorem Vals.inj{xs ys:List V}{us:List Value}(h:Vals xs us)(g:Vals ys us):xs=ys:=by
 induction h generalizing ys with
 |nil=>cases g;rfl
 |cons r t j=>
  cases g with
  |cons n t'=>rw[r.inj n,j t']
section
variable{X:Cx}{pins:List (Addr×Obj)}{σ:St}{H:Hp}{s:Shared}{a:Addr}{xs ys:List V}
theorem Ah.of{K:PySem.W.Frag}(h:H a=some (.lst xs)):Ah K H a xs:=.inl (.inl h)
theorem Cd.of{K:PySem.W.Frag}(h:H a=some (.tup xs)):Cd K H a xs:=.inl (.inl h)
theorem Inv.list(I:Inv X pins σ H s)(h:Ah X.K H a xs):∃its:List Value,Vals xs its/\PlainL s.heap a its.toArray/\xs.length<=sizeLine:=by
 rcases h with h|⟨o,its,n,j,q,hd,B,hz,r⟩
 .obtain⟨z,its,n,r,e⟩:=h.ok I.Cb;exact⟨its,r,⟨_,n,e,rfl,rfl,rfl⟩,z⟩
 .refine⟨its.toList,r,⟨o,n,I.WL a o j,q,hd,by simpa using B⟩,?_⟩;have e:=r.length;simp only[zM]at e;lia
theorem Inv.tuple(I:Inv X pins σ H s)(h:Cd X.K H a xs):∃its:List Value,Vals xs its/\IsTup s.heap a its.toArray/\xs.length<=sizeLine:=by
 rcases h with h|⟨o,its,n,j,q,B,hz,r⟩
 .obtain⟨z,its,r,p⟩:=h.ok I.Cb;exact⟨its,r,p,z⟩
 .refine⟨its.toList,r,⟨o,I.WL a o j,q,n,by simpa using B⟩,?_⟩;have e:=r.length;simp only[zM]at e;lia
theorem Inv.VA(I:Inv X pins σ H s)(h:Ah X.K H a xs)(h':Ah X.K H a ys):xs=ys:=by
 obtain⟨its,r,⟨o,n,e,_,_,d⟩,_⟩:=I.list h;obtain⟨its',q,⟨o',B,j,_,_,d'⟩,_⟩:=I.list h';rw[e]at j;cases j;rw[d]at d';injection d' with z _
 have:its=its':=by simpa using x3 Array.toList z
 subst this;exact r.inj q
theorem Inv.Qw(I:Inv X pins σ H s)(h:Cd X.K H a xs)(h':Cd X.K H a ys):xs=ys:=by
 obtain⟨its,r,⟨o,e,_,n,d⟩,_⟩:=I.tuple h;obtain⟨its',q,⟨o',j,_,B,d'⟩,_⟩:=I.tuple h';rw[e]at j;cases j;rw[d]at d';injection d' with z _
 have:its=its':=by simpa using x3 Array.toList z
 subst this;exact r.inj q
end
noncomputable abbrev Cx.Wa(X:Cx)(E:Value->Shared->Prop):Cx:={X with xe:=E}
abbrev Cx.Ck(X:Cx):Cx:=X.Wa λ_ _=>False
theorem Cx.Ok.Wa{X:Cx}(ok:X.Ok)(E:Value->Shared->Prop):(X.Wa E).Ok:=
 ⟨ok.mod,ok.kind,ok.glob,ok.blt,ok.above,ok.inj,ok.has,ok.uD,ok.hd,ok.frames,ok.ux,ok.vA,ok.bs,ok.kT,ok.ke,ok.kl,ok.Q8,ok.qD⟩
theorem Cx.Ok.Lq{X:Cx}{E:Value->Shared->Prop}(ok:(X.Wa E).Ok):X.Ok:=
 ⟨ok.mod,ok.kind,ok.glob,ok.blt,ok.above,ok.inj,ok.has,ok.uD,ok.hd,ok.frames,ok.ux,ok.vA,ok.bs,ok.kT,ok.ke,ok.kl,ok.Q8,ok.qD⟩
section
variable{X:Cx}{pins:List (Addr×Obj)}{σ:St}{H:Hp}{s:Shared}{E:Value->Shared->Prop}
theorem Inv.Wa(I:Inv X pins σ H s)(E:Value->Shared->Prop):Inv (X.Wa E) pins σ H s:=⟨I.ok.Wa E,I.os,I.bare,I.base,I.loc,I.cell,I.free,I.Hr,I.pin,I.Cb,I.len⟩
theorem Inv.Lq(I:Inv (X.Wa E) pins σ H s):Inv X pins σ H s:=⟨I.ok.Lq,I.os,I.bare,I.base,I.loc,I.cell,I.free,I.Hr,I.pin,I.Cb,I.len⟩
theorem SP.Lq(h:SP (X.Wa E) pins D f s'):SP X pins D f s':=by
 cases f with
 |next=>obtain⟨j,H',I,q⟩:=h;exact⟨j,H',I.Lq,q⟩
 |brk=>obtain⟨j,H',I,q⟩:=h;exact⟨j,H',I.Lq,q⟩
 |cont=>obtain⟨j,H',I,q⟩:=h;exact⟨j,H',I.Lq,q⟩
 |ret u=>obtain⟨v,j,H',I,r,q⟩:=h;exact⟨v,j,H',I.Lq,r,q⟩
theorem gX.Ck{st:List Stmt}{t:TS}(h:gX X.Ck st t):gX X st t:=λpins s σ H D I j=>
 y4 (h pins s σ H D (I.Wa _) j) (λ_ _ q=>q.Lq) λ_ _ z=>False.elim z
end
section
variable{X:Cx}{st:Stmt}{rest:List Stmt}{t u:TS}{e:Expr}{te:TE}{pos:Pos}
def kJ:TS:=λD σ H=>D.nx σ H
def YZ(t u:TS):TS:=λD σ H=>t {D with nx:=u D} σ H
theorem AQ:gX X [] kJ:=λ_ _ σ H _ I h=>ABB ⟨σ,H,I,h⟩
theorem AD(h1:PS X st t)(h2:gX X rest u):gX X (st::rest) (YZ t u):=by
 intro pins s σ H D I h;refine wpAny_execs_cons (Bw (h1 pins s σ H {D with nx:=u D} I h) λf n q=>?_);cases f with
 |next=>obtain⟨j,H',z,q⟩:=q;exact h2 pins n j H' D z q
 |ret v=>exact q
 |brk=>exact q
 |cont=>exact q
theorem AF(h1:PS X st t):gX X [st] t:=by
 intro pins s σ H D I h;refine wpAny_execs_cons (Bw (h1 pins s σ H D I h) λf j q=>?_);cases f with
 |next=>exact ABB q
 |ret v=>exact q
 |brk=>exact q
 |cont=>exact q
theorem Inv.quiet(I:Inv X pins σ H s):interactive X.env=false:=by simp[interactive,I.ok.kind]
def pZ(te:TE):TS:=λD σ H=>te σ H λ_ H1=>D.nx σ H1
theorem A3(j:PE X e te)(n:swapsWith e none pos.line X.env=pure false:=by rfl):PS X (.Expr e pos) (pZ te):=by intro pins s σ H D I h;exact wpAny_Expr_any (Bw (j pins s σ H _ I h) λv B⟨x,H1,q,J,z⟩=>⟨σ,H1,q,z⟩) I.quiet n
def uY(te:TE):TS:=λD σ H=>te σ H D.rt
theorem AK(j:PE X e te):PS X (.Return (some e) pos) (uY te):=by intro pins s σ H D I h;exact wpAny_Return_some (Bw (j pins s σ H _ I h) λv B⟨x,H1,n,q,z⟩=>⟨x,σ,H1,n,q,z⟩)
def jo(c:TT)(t u:TS):TS:=λD σ H=>c σ H λb H1=>if b=true then t D σ H1 else u D σ H1
theorem Ab(z:PT X c tc)(B:gX X a t)(J:gX X b u):PS X (.If c a b pos) (jo tc t u):=by
 intro pins s σ H D I h;refine wpAny_If (Bw (z pins s σ H _ I h) λd j⟨H1,n,q⟩=>?_);cases d with
 |true=>exact B pins j σ H1 D n q
 |false=>exact J pins j σ H1 D n q
end
abbrev TG:=V->St->Hp->(St->Hp->Prop)->Prop
abbrev ur:=List V->St->Hp->(St->Hp->Prop)->Prop
def PG(X:Cx)(target:Expr)(t:TG):Prop:=
 ∀(pins:List (Addr×Obj))(s:Shared)(σ:St)(H:Hp)(v:V)(u:Value)(Q:St->Hp->Prop),Inv X pins σ H s->RelV v u->t v σ H Q->
  wpAny (model X.prog X.w) X.A (assign target X.env u) (λ_ s'=>∃j H',Inv X pins j H' s'/\Q j H') X.xe s
def u7(X:Cx)(n:List Expr)(t:ur):Prop:=
 ∀(pins:List (Addr×Obj))(s:Shared)(σ:St)(H:Hp)(vs:List V)(us:List Value)(Q:St->Hp->Prop),Inv X pins σ H s->Vals vs us->t vs σ H Q->
  wpAny (model X.prog X.w) X.A (assignInOrder ((assignEach n X.env).map (·.2)) us) (λ_ s'=>∃j H',Inv X pins j H' s'/\Q j H') X.xe s
abbrev tm:=V->V->V->Hp->(Hp->Prop)->Prop
def tI(X:Cx)(t:tm):Prop:=
 ∀(pins:List (Addr×Obj))(s:Shared)(σ:St)(H:Hp)(o i v:V)(j n u:Value)(Q:Hp->Prop),Inv X pins σ H s->RelV o j->RelV i n->RelV v u->t o i v H Q->
  wpAny (model X.prog X.w) X.A (setItem j n u) (λ_ s'=>∃H',Inv X pins σ H' s'/\Q H') X.xe s
section
variable{X:Cx}{pos:Pos}
def R7(i:Nat):TG:=λv σ H Q=>Q (σ.set i (some v)) H
theorem X3(j:X.N.Nodup)(hi:X.N[i]?=some x)(n:Loc X.env.scope x)(q:X.fn x=true\/X.env.scope.names.lookup x=some .local:=by first|exact .inl rfl|exact .inr rfl|assumption):PG X (.Name x pos) (R7 i):=by intro pins s σ H v u Q I r h;exact wpAny_assign_Name (Z1 I j hi n r (λs' z=>⟨_,H,z,h⟩) q)
def vT:ur:=λvs σ H Q=>vs=[]/\Q σ H
inductive ug(t:TG)(u:ur)(vs:List V)(σ:St)(H:Hp)(Q:St->Hp->Prop):Prop
 |mk (v r) (_:vs=v::r) (_:t v σ H λσ' H'=>u r σ' H' Q)
theorem CY:u7 X [] vT:=by intro pins s σ H vs us Q I r h;obtain⟨e,h⟩:=h;subst e;cases r;exact assignInOrder_nil ⟨σ,H,I,h⟩
theorem Ak(h1:PG X e t)(h2:u7 X es u)
  (n:(assignEach (e::es) X.env).map (·.2)=assign e X.env::(assignEach es X.env).map (·.2):=by rfl):u7 X (e::es) (ug t u):=by
 intro pins s σ H vs us Q I r h;obtain⟨v,L,e1,h⟩:=h;subst e1;cases r with
 |cons r q=>rw[n];refine assignInOrder_cons (Bw (h1 pins s σ H _ _ _ I r h) λ_ z⟨j,H1,B,J⟩=>?_);exact h2 pins z j H1 _ _ Q B q J
inductive eC(K:PySem.W.Frag)(n:Nat)(t:ur)(v:V)(σ:St)(H:Hp)(Q:St->Hp->Prop):Prop
 |mk (a xs) (_:v=.ref a) (_:Cd K H a xs) (_:xs.length=n) (_:t xs σ H Q)
theorem DT(B:X.calm=true)(h:u7 X es t)
  (J:(assignEach es X.env).length=n:=by rfl) (j:(assignEach es X.env).findIdx? (·.1)=none:=by rfl):PG X (.Tuple es k pos) (eC X.K n t):=by
 intro pins s σ H v u Q I r q;obtain⟨a,xs,e1,L,M,q⟩:=q;subst e1;cases r;obtain⟨its,z,N,hz⟩:=I.tuple L;refine assign_Tuple_tuple (I.ok.hd B) N (by simp[J,<-M,z.length]) j λh' O=>?_;have U:Inv X pins σ H {s with heap:=h'}:=I.kept (t':=s.toks) λb o e=>O b o (x6 (xj e)) e;exact h pins _ σ H xs _ Q U (by simpa using z) q
def vg(to j:TE)(t:tm):TG:=λv σ H Q=>to σ H λo H1=>j σ H1 λi H2=>t o i v H2 λn=>Q σ n
theorem kf(q:PE X o to)(hi:PE X i z)(B:tI X t)
  (J:∀v,assign (.Subscript o i pos) X.env v=(do
   let j<-holding [v] (eval o X.env)
   let n<-holding [v,j] (eval i X.env)
   standAt pos
   holding [v,j,n] (setItem j n v)
   release [v,j,n] []):=by intro _;rfl):PG X (.Subscript o i pos) (vg to z t):=by
 intro pins s σ H v u Q I r h;rw[J];refine xG (zQ (Bw (q pins s σ H _ I h) λj L⟨x,H1,M,N,O⟩=>?_));refine xG (zQ (Bw (hi pins L σ H1 _ M O) λn U⟨y,H2,Y,r2,q2⟩=>?_));refine xG (ABa (xG (zQ (Bw (B pins U σ H2 x y v j n u _ Y N r2 r q2) λ_ s3⟨H3,I3,q3⟩=>?_))));exact wpAny_release ⟨σ,H3,I3,q3⟩
def mD(te:TE)(g:TG):TS:=λD σ H=>te σ H λx H1=>g x σ H1 D.nx
theorem lU(j:PE X e te)(n:PG X tg g)(z:swapsWithSole [tg] e pos.line X.env=pure false:=by rfl)(B:swappedStores [tg] e X.env=pure none:=by rfl)
  (h1:(assignEach [tg] X.env).map (·.2)=[assign tg X.env]:=by rfl):PS X (.Assign [tg] e pos) (mD te g):=by
 intro pins s σ H D I h;refine wpAny_Assign_stores (Bw (j pins s σ H _ I h) λv J⟨x,H1,L,M,N⟩=>?_) z B;rw[h1];exact Bw (n pins J σ H1 x v _ L M N) λ_ O q=>q
theorem Y2(j:X.N.Nodup)(hi:X.N[i]?=some x)(n:Loc X.env.scope x)(q:PE X e te)(z:swapsWith e (some (.Name x pos')) pos.line X.env=pure false:=by rfl)(B:X.fn x=true\/X.env.scope.names.lookup x=some .local:=by first|exact .inl rfl|exact .inr rfl|assumption):
  PS X (.Assign [.Name x pos'] e pos) (mD te (R7 i)):=by
 intro pins s σ H D I h;refine wpAny_Assign_Name (Bw (q pins s σ H _ I h) λv O⟨y,H1,J,L,M⟩=>?_) z;exact Z1 J j hi n L (λU N=>⟨_,H1,N,M⟩) B
def sM(c:TT)(tb:TS):TS:=λD σ H=>∃W:Nat->St->Hp->Prop,(∃m,W m σ H)/\∀m σ H,W m σ H->
 c σ H λb H1=>if b=true then∃N:St->Hp->Prop,(∀j H',N j H'->∃n,n<m/\W n j H')/\tb {D with nx:=N,ct:=N,bk:=D.nx} σ H1 else D.nx σ H1
theorem MK(hp:PassesOwn (model X.prog X.w) X.A X.env X.xe)(hc:PT X c tc)(hb:gX X body tb):PS X (.While c body [] pos) (sM tc tb):=by
 intro pins s σ H D I h;obtain⟨W,⟨m0,w0⟩,z⟩:=h;refine wpAny_While (codeAny_whileLoop (λn s'=>∃B H',Inv X pins B H' s'/\W n B H') ?_ m0 ⟨σ,H,I,w0⟩);rintro n s1 ⟨q,H1,I1,w1⟩;refine zp hp (Bw (hc pins s1 q H1 _ I1 (z n q H1 w1)) λb s2⟨H2,I2,L⟩=>?_);cases b with
 |true=>
  obtain⟨N,hN,L⟩:=L;rw[xQ rfl];refine zp hp (Bw (hb pins s2 q H2 _ I2 L) λf s3 M=>?_);cases f with
  |next=>obtain⟨j,J,O,U⟩:=M;obtain⟨Y,hm,w3⟩:=hN j J U;exact⟨Y,hm,j,J,O,w3⟩
  |cont=>obtain⟨j,J,O,U⟩:=M;obtain⟨Y,hm,w3⟩:=hN j J U;exact⟨Y,hm,j,J,O,w3⟩
  |brk=>exact M
  |ret v=>exact M
 |false=>rw[xJ xy];exact ABB ⟨q,H2,I2,L⟩
end
structure It where
 go:Nat->Hp->Prop
 jz:Nat->Hp->V->Hp->Prop
 stop:Nat->Hp->Prop
def Sy(X:Cx)(pins:List (Addr×Obj))(H:Hp)(b:Addr):Prop:=
 H b=none/\b≠X.env.locals/\b∉X.fs/\(b∈X.ex\/X.Zg.heap.objs.size<=b)/\(∀x c,X.env.cells.lookup x=some c->c≠b)/\∀p∈X.pn++pins,p.1≠b
theorem Inv.Zo{X:Cx}{pins:List (Addr×Obj)}{σ:St}{H H':Hp}{s:Shared}{b:Addr}(I:Inv X pins σ H s)(j:s.heap.objs.size<=b)(n:H' b=none):Sy X pins H' b:=by
 refine⟨n,yY (yC I.lt j),I.vf j,.inr (xr I.sz j),λx c e z=>?_,λp B z=>?_⟩
 .obtain⟨v,q⟩:=I.cell x c e;exact absurd (yC q.lt (by rw[z];exact j)) (y8 _)
 .exact absurd (yC (xj (I.pin p B).1) (by rw[z];exact j)) (y8 _)
structure Turn(P:Program)(w:World)(K:PySem.W.Frag)(tg:Expr)(J:It)(fp:List Addr)(it:Addr)(tn:Nat->Heap->Prop):Prop where
 mem:it∈fp
 obj:∀i h,tn i h->∀b∈fp,∃o,h.get? b=some o/\∀v,o.data≠ .cell v
 keep:∀i h h',tn i h->(∀b∈fp,∀o,h.get? b=some o->h'.get? b=some o)->tn i h'
 item:∀(X:Cx),X.prog=P->X.w=w->X.K=K->X.calm=true->∀(i:Nat)(pins:List (Addr×Obj))(s:Shared)(σ:St)(H:Hp)(E:Value->Shared->Prop),Inv X pins σ H s->(∀b∈fp,Sy X pins H b)->tn i s.heap->J.go i H->
  wpAny (model P w) X.A (pyNext (.ref it)) (λr s1=>∃u,r=some u/\
   wpAny (model P w) X.A (letOwnedTupleGo tg (.ref it) u) (λ_ s2=>∃x H',Inv X pins σ H' s2/\RelV x u/\J.jz i H x H'/\tn (i+1) s2.heap/\∀b∈fp,H' b=none) E s1) E s
 done:∀(X:Cx),X.prog=P->X.w=w->X.K=K->X.calm=true->∀(i:Nat)(pins:List (Addr×Obj))(s:Shared)(σ:St)(H:Hp)(E:Value->Shared->Prop),Inv X pins σ H s->(∀b∈fp,Sy X pins H b)->tn i s.heap->J.stop i H->
  wpAny (model P w) X.A (pyNext (.ref it)) (λr s1=>r=none/\Inv X pins σ H s1) E s
 self:∀(A:Around)(i:Nat)(s:Shared)(Q:Value->Shared->Prop)(E:Value->Shared->Prop),tn i s.heap->Q (.ref it) s->wpAny (model P w) A (pyIter (.ref it)) Q E s
abbrev TI:=St->Hp->(It->Hp->Prop)->Prop
inductive uo(X:Cx)(pins:List (Addr×Obj))(σ:St)(tg:Expr)(R:It->Hp->Prop)(itv:Value)(s2:Shared):Prop
 |mk (it:Addr) (fp:List Addr) (tn:Nat->Heap->Prop) (J:It) (H':Hp) (_:itv=.ref it) (_:Inv X pins σ H' s2) (_:Turn X.prog X.w X.K tg J fp it tn) (_:tn 0 s2.heap) (_:(∀b∈fp,Sy X pins H' b)) (_:R J H')
def PI(X:Cx)(tg iter:Expr)(j:TI):Prop:=
 ∀(pins:List (Addr×Obj))(s:Shared)(σ:St)(H:Hp)(R:It->Hp->Prop),Inv X pins σ H s->j σ H R->
  wpAny (model X.prog X.w) X.A (eval iter X.env) (λv n=>wpAny (model X.prog X.w) X.A (pyIter v) (uo X pins σ tg R) X.xe n) X.xe s
theorem gb(q:s.heap.get? z=some o)(B:o.cls=.type n)(hd:o.data=.fields vs)
  (I:["enumerate","zip","dict_itemiterator","dict_reverseitemiterator","odict_iterator","itertools.zip_longest","itertools.pairwise"].contains n=false) (j:Q () s):wpAny M A (letOwnedTupleGo tg (.ref z) u) Q E s:=by
 unfold letOwnedTupleGo;cases tg<;> first
  |exact xU j
  |(cases u<;> first
    |exact xU j
    |(refine xG (wpAny_load q ?_)
      rw[B,hd];show wpAny M A (if(["enumerate","zip","dict_itemiterator","dict_reverseitemiterator","odict_iterator","itertools.zip_longest","itertools.pairwise"].contains n && vs[0]?==some (rawInt _))=true then _ else _) Q E s;rw[xJ (by intro h;rw[I,zU]at h;cases h)];exact xU j))
noncomputable def pV(K:PySem.W.Frag)(a:Addr):It:=
 ⟨λi H=>∃xs x,Ah K H a xs/\xs[i]?=some x,λi H x H'=>H'=H/\∀xs,Ah K H a xs->xs[i]?=some x,λi H=>∃xs,Ah K H a xs/\xs.length<=i⟩
noncomputable def su(K:PySem.W.Frag)(a:Addr):It:=
 ⟨λi H=>∃xs x,Cd K H a xs/\xs[i]?=some x,λi H x H'=>H'=H/\∀xs,Cd K H a xs->xs[i]?=some x,λi H=>∃xs,Cd K H a xs/\xs.length<=i⟩
noncomputable def m9(lo:Int)(n:Nat):It:=⟨λi _=>i<n,λi H x H'=>H'=H/\x=.int (lo+i),λi _=>n<=i⟩
theorem iy{P:Program}{w:World}{K:PySem.W.Frag}{tg:Expr}(a j:Addr):Turn P w K tg (pV K a) [j] j (λi h=>h.IsListIter j a i) where
 mem:=by simp
 obj:=λi h st b n=>by
  have e:b=j:=by simpa using n
  subst e;obtain⟨o,e,c,d⟩:=st;exact⟨o,e,λv z=>by rw[d]at z;cases z⟩
 keep:=λi h h' st k=>st.at λo e=>k j (by simp) o e
 item:=by intro X L M N hc i pins s σ H E I B st O;subst L M N;obtain⟨xs,x,J,U⟩:=O;obtain⟨its,Y,p,hz⟩:=I.list J;obtain⟨u,hu,ru⟩:=Y.get U;obtain⟨f0,f1,f2,f3,f4,f5⟩:=B j (by simp);refine wpAny_pyNext_list_item st p.isList (x:=u) (by simpa using hu) λh' q sb=>?_;have I1:Inv X pins σ H {s with heap:=h'}:=I.turned (t':=s.toks) (λb o n e=>(sb.2 b n).trans e) f0 f1 f3 f4 f5;obtain⟨o,e,c,d⟩:=id q;exact⟨u,rfl,gb (s:={s with heap:=h'}) e c d Dc ⟨x,H,I1,ru,⟨rfl,λys hy=>by rw[I.VA hy J];exact U⟩,q,λb n=>(B b n).1⟩⟩
 done:=by intro X L M N hc i pins s σ H E I B st O;subst L M N;obtain⟨xs,J,U⟩:=O;obtain⟨its,Y,p,hz⟩:=I.list J;obtain⟨f0,f1,f2,f3,f4,f5⟩:=B j (by simp);have hl:=Y.length;exact wpAny_pyNext_list_end (I.ok.hd hc) st p.isList (by simp;lia) λh' eb=>⟨rfl,I.turned (t':=s.toks) (λb o n e=>eb b o n e) f0 f1 f3 f4 f5⟩
 self:=λ_ _ _ _ _ st h=>wpAny_pyIter_listiter st h
theorem dZ{P:Program}{w:World}{K:PySem.W.Frag}{tg:Expr}(a j:Addr):Turn P w K tg (su K a) [j] j (λi h=>h.IsTupleIter j a i) where
 mem:=by simp
 obj:=λi h st b n=>by
  have e:b=j:=by simpa using n
  subst e;obtain⟨o,e,c,d⟩:=st;exact⟨o,e,λv z=>by rw[d]at z;cases z⟩
 keep:=λi h h' st k=>st.at λo e=>k j (by simp) o e
 item:=by intro X L M N hc i pins s σ H E I B st O;subst L M N;obtain⟨xs,x,J,U⟩:=O;obtain⟨its,Y,p,hz⟩:=I.tuple J;obtain⟨u,hu,ru⟩:=Y.get U;obtain⟨f0,f1,f2,f3,f4,f5⟩:=B j (by simp);refine wpAny_pyNext_tuple_item st (show s.heap.IsTuple a its.toArray from p) (x:=u) (by simpa using hu) λh' q sb=>?_;have I1:Inv X pins σ H {s with heap:=h'}:=I.turned (t':=s.toks) (λb o n e=>(sb.2 b n).trans e) f0 f1 f3 f4 f5;obtain⟨o,e,c,d⟩:=id q;exact⟨u,rfl,gb (s:={s with heap:=h'}) e c d Dc ⟨x,H,I1,ru,⟨rfl,λys hy=>by rw[I.Qw hy J];exact U⟩,q,λb n=>(B b n).1⟩⟩
 done:=by intro X L M N hc i pins s σ H E I B st O;subst L M N;obtain⟨xs,J,U⟩:=O;obtain⟨its,Y,p,hz⟩:=I.tuple J;obtain⟨f0,f1,f2,f3,f4,f5⟩:=B j (by simp);have hl:=Y.length;exact wpAny_pyNext_tuple_end (I.ok.hd hc) st (show s.heap.IsTuple a its.toArray from p) (by simp;lia) λh' eb=>⟨rfl,I.turned (t':=s.toks) (λb o n e=>eb b o n e) f0 f1 f3 f4 f5⟩
 self:=λ_ _ _ _ _ st h=>wpAny_pyIter_tupleiter st h
theorem eQ{P:Program}{w:World}{K:PySem.W.Frag}{tg:Expr}(j:Addr)(lo:Int)(n:Nat):Turn P w K tg (m9 lo n) [j] j (λi h=>IsRangeIter h j (lo+(i:Nat)*1) ((n:Int) - (i:Nat)) 1) where
 mem:=by simp
 obj:=λi h st b q=>by
  have e:b=j:=by simpa using q
  subst e;exact⟨_,st,λv z=>by
   have z':Data.fields _=Data.cell v:=z;cases z'⟩
 keep:=λi h h' st k=>k j (by simp) _ st
 item:=by intro X L M N O i pins s σ H E I J st U;subst L M N;obtain⟨Y,f1,f2,f3,f4,f5⟩:=J j (by simp);have W:=Walks.range (prog:=X.prog) (w:=X.w) (I.ok.hd O) j lo 1 n;refine W.item i s _ _ U st λv h' tk hv B kk=>?_;obtain⟨t,rfl⟩:=hv;have I1:Inv X pins σ H {s with heap:=h',toks:=tk}:=I.turned (λb o q e=>kk b o (by simpa using q) e) Y f1 f3 f4 f5;refine⟨_,rfl,gb (s:={s with heap:=h',toks:=tk}) (n:="range_iterator") B rfl rfl Dc ⟨.int (lo+i),H,I1,⟨t,?_⟩,⟨rfl,rfl⟩,B,λb q=>(J b q).1⟩⟩;rw[Int.mul_one]
 done:=by intro X L M N O i pins s σ H E I J st U;subst L M N;obtain⟨Y,f1,f2,f3,f4,f5⟩:=J j (by simp);exact wpAny_pyNext_range_end (I.ok.hd O) st (by have:n<=i:=U;lia) λh' eb=>⟨rfl,I.turned (t':=s.toks) (λb o q e=>eb b o q e) Y f1 f3 f4 f5⟩
 self:=λ_ _ _ _ _ st h=>wpAny_pyIter_rangeiter st h
section
variable{X:Cx}{tg:Expr}
inductive qv(K:PySem.W.Frag)(R:It->Hp->Prop)(x:V)(H1:Hp):Prop
 |mk (a) (_:x=.ref a) (_:(∃xs,Ah K H1 a xs)) (_:R (pV K a) H1)
def tN(K:PySem.W.Frag)(tl:TE):TI:=λσ H R=>tl σ H (qv K R)
inductive uM(K:PySem.W.Frag)(R:It->Hp->Prop)(x:V)(H1:Hp):Prop
 |mk (a) (_:x=.ref a) (_:(∃xs,Cd K H1 a xs)) (_:R (su K a) H1)
def vO(K:PySem.W.Frag)(tl:TE):TI:=λσ H R=>tl σ H (uM K R)
theorem BE{l:Expr}{tl:TE}(z:PE X l tl):PI X tg l (tN X.K tl):=by
 intro pins s σ H R I h;refine Bw (z pins s σ H _ I h) λv j⟨x,H1,n,B,J⟩=>?_;obtain⟨a,e,⟨xs,L⟩,q⟩:=J;subst e;cases B;obtain⟨its,N,p,hz⟩:=n.list L;refine AAp p.isList ?_;refine⟨j.heap.objs.size,[j.heap.objs.size],_,_,H1,rfl,n.kept (t':=j.toks) λb o e=>xN _ e,iy a _,⟨_,xf _ rfl,rfl,rfl⟩,λb M=>?_,q⟩;have e:b=j.heap.objs.size:=by simpa using M
 subst e;exact n.Zo (xZ _) (n.Cb.fresh (xZ _))
theorem mx{l:Expr}{tl:TE}(z:PE X l tl):PI X tg l (vO X.K tl):=by
 intro pins s σ H R I h;refine Bw (z pins s σ H _ I h) λv j⟨x,H1,n,B,J⟩=>?_;obtain⟨a,e,⟨xs,L⟩,q⟩:=J;subst e;cases B;obtain⟨its,N,p,hz⟩:=n.tuple L;refine wpAny_pyIter_tuple (show j.heap.IsTuple a its.toArray from p) ?_;refine⟨j.heap.objs.size,[j.heap.objs.size],_,_,H1,rfl,n.kept (t':=j.toks) λb o e=>xN _ e,dZ a _,⟨_,xf _ rfl,rfl,rfl⟩,λb M=>?_,q⟩;have e:b=j.heap.objs.size:=by simpa using M
 subst e;exact n.Zo (xZ _) (n.Cb.fresh (xZ _))
theorem Z4{pins:List (Addr×Obj)}{σ:St}{H:Hp}{s:Shared}{R:It->Hp->Prop}{E:Value->Shared->Prop}{lo hi:Int}{t u v:Tok}{tk:Nat}(I:Inv X pins σ H s)(h1: -(2 ^ 62)<=lo)(h2:lo<2 ^ 62)(n: -(2 ^ 62)<=hi)(z:hi<2 ^ 62)
  (q:R (m9 lo (hi - lo).toNat) H):wpAny (model X.prog X.w) X.A (pyIter (.ref s.heap.objs.size)) (uo X pins σ tg R) E {s with heap:=s.heap.push {cls:=.type "range",data:=.fields #[.int lo t,.int hi u,.int 1 v]},toks:=tk}:=by
 refine wpAny_pyIter_range (IsRange.new ..) (small_one h1 h2 n z) ?_;have j:Inv X pins σ H {s with heap:=s.heap.push {cls:=.type "range",data:=.fields #[.int lo t,.int hi u,.int 1 v]},toks:=tk}:=I.kept λb o e=>xN _ e;refine⟨(s.heap.push {cls:=.type "range",data:=.fields #[.int lo t,.int hi u,.int 1 v]}).objs.size,[(s.heap.push {cls:=.type "range",data:=.fields #[.int lo t,.int hi u,.int 1 v]}).objs.size],_,_,H,rfl,
  j.kept (t':=tk) λb o e=>xN _ e,eQ _ lo (hi - lo).toNat,?_,λb B=>?_,q⟩
 .have e1:lo+((0:Nat):Int)*1=lo:=by simp
  have J:(((hi - lo).toNat:Nat):Int) - ((0:Nat):Int)=Builtin.Range.rangeSize lo hi 1:=by rw[rangeSize_one];split<;> lia
  show IsRangeIter _ _ (lo+((0:Nat):Int)*1) ((((hi - lo).toNat:Nat):Int) - ((0:Nat):Int)) 1;rw[e1,J];exact xf _ rfl
 .have e:b=(s.heap.push {cls:=.type "range",data:=.fields #[.int lo t,.int hi u,.int 1 v]}).objs.size:=by simpa using B
  subst e;exact j.Zo (xZ _) (j.Cb.fresh (xZ _))
inductive rG(R:It->Hp->Prop)(vs:List V)(H1:Hp):Prop
 |mk (j:Int) (_:vs=[.int j]) (_: -(2 ^ 62)<=j) (_:j<2 ^ 62) (_:R (m9 0 j.toNat) H1)
def tQ(ta:TA):TI:=λσ H R=>ta σ H (rG R)
inductive qh(R:It->Hp->Prop)(vs:List V)(H1:Hp):Prop
 |mk (i j:Int) (_:vs=[.int i,.int j]) (_:(-(2 ^ 62)<=i/\i<2 ^ 62/\ -(2 ^ 62)<=j/\j<2 ^ 62)) (_:R (m9 i (j - i).toNat) H1)
def uW(ta:TA):TI:=λσ H R=>ta σ H (qh R)
theorem XR{a:Expr}{ta:TA}{p pos:Pos}(z:Gl X "range")(B:X.mg "range"=none)(J:PA X [a] ta)(L:starEach [a] X.env=[(false,eval a X.env)]:=by rfl):PI X tg (.Call (.Name "range" p) [a] [] pos) (tQ ta):=by
 intro pins s σ H R I h;refine Call_ (Lv I z B boot_range (yz (Bw (J pos pins s σ H _ I h) λus Y⟨vs,H1,M,N,n⟩=>?_) L rfl));obtain⟨j,e,n,O,q⟩:=n;subst e;cases N with
 |cons r U=>cases U;obtain⟨t,rfl⟩:=r;exact call_range_1 (Z4 M Om Om n O (by simpa using q))
theorem Wz(J:Gl X "range")(L:X.mg "range"=none)(M:PA X [a,b] ta)(N:starEach [a,b] X.env=[(false,eval a X.env),(false,eval b X.env)]:=by rfl)(n:starEach [b] X.env=[(false,eval b X.env)]:=by rfl):
  PI X tg (.Call (.Name "range" p) [a,b] [] pos) (uW ta):=by
 intro pins s σ H R I h;refine Call_ (Lv I J L boot_range (yz (Bw (M pos pins s σ H _ I h) λus s1⟨vs,H1,O,U,z⟩=>?_) (by rw[N,n]) (by rw[n];rfl)));obtain⟨i,j,e,⟨z,Y,q3,q4⟩,q⟩:=z;subst e;cases U with
 |cons r B=>
  cases B with
  |cons r' B=>cases B;obtain⟨t,rfl⟩:=r;obtain⟨t',rfl⟩:=r';exact call_range_2 (Z4 O z Y q3 q4 q)
def wN(z:TI)(g:TG)(tb:TS):TS:=λD σ H=>z σ H λJ H1=>∃W:Nat->Nat->St->Hp->Prop,(∃m,W 0 m σ H1)/\∀i m σ H,W i m σ H->
 (J.stop i H/\D.nx σ H)\/(J.go i H/\∃N:St->Hp->Prop,(∀j H',N j H'->∃q,q<m/\W (i+1) q j H')/\∀x H',J.jz i H x H'->g x σ H' λn H2=>tb {D with nx:=N,ct:=N,bk:=D.nx} n H2)
noncomputable def Tq(j:List Addr)(h:Heap):List (Addr×Obj):=j.filterMap λb=>(h.get? b).map λo=>(b,o)
theorem N7(j:b∈n)(e:h.get? b=some o):(b,o)∈Tq n h:=AAh.mpr ⟨b,j,by rw[e];rfl⟩
theorem j7(j:p∈Tq n h):p.1∈n/\h.get? p.1=some p.2:=by
 obtain⟨b,z,e⟩:=AAh.mp j;cases q:h.get? b with
 |none=>rw[q]at e;cases e
 |some o=>rw[q]at e;have B:(b,o)=p:=xn e;subst B;exact⟨z,q⟩
theorem Inv.pinned(I:Inv X pins σ H s)(B:∀b∈j,Sy X pins H b)(J:∀b∈j,∃o,s.heap.get? b=some o/\∀v,o.data≠ .cell v):Inv X (pins++Tq j s.heap) σ H s:=
 I.gL λp L=>(xq.mp L).elim (λz=>I.pin p (yb _ z)) λz=>by obtain⟨n,e⟩:=j7 z;obtain⟨M,f1,f2,_⟩:=B p.1 n;obtain⟨o,q,d⟩:=J p.1 n;rw[e]at q;cases q;exact⟨e,M,f1,f2,d⟩
theorem Inv.O3(I:Inv X (pins++pl) σ H s):Inv X pins σ H s:=I.gL λp j=>I.pin p (yb _ (y3 _ j))
theorem Bc{iter:Expr}{body:List Stmt}{wi:TI}{g:TG}{tb:TS}{pos:Pos}(hp:PassesOwn (model X.prog X.w) X.A X.env X.xe)(hc:X.calm=true)(hi:PI X tg iter wi)(hg:PG X tg g)(q:gX X body tb)
  (hs:∀x,foldedSetIterable iter X.env x=pure x:=by intro _;rfl):PS X (.For tg iter body [] pos) (wN wi g tb):=by
 intro pins s σ H D I h;refine wpAny_For (Bw (hi pins s σ H _ I h) λv s1 h1=>Bw h1 λaj s2 h2=>?_) hs;obtain⟨it,fp,tn,J,H2,e,I2,T,af,f2,W,⟨m0,w0⟩,aa⟩:=h2;subst e;have z:∀{H':Hp},(∀b∈fp,H' b=none)->∀b∈fp,Sy X pins H' b:=λhn b q=>⟨hn b q,(f2 b q).2⟩;refine codeAny_forLoop_any (λn s'=>∃i B H',Inv X pins B H' s'/\tn i s'.heap/\(∀b∈fp,H' b=none)/\W i n B H') ?_ m0 ⟨0,σ,H2,I2,af,λb q=>(f2 b q).1,w0⟩;rintro n s3 ⟨i,L,H3,I3,ab,ae,w3⟩;rcases aa i n L H3 w3 with⟨stop,qn⟩|⟨go,N,hN,step⟩
 .refine zp hp (Bw (T.done X rfl rfl rfl hc i pins s3 L H3 X.xe I3 (z ae) ab stop) λr s4⟨hr,I4⟩=>?_);subst hr;exact ABB ⟨L,H3,I4,qn⟩
 .refine zp hp (Bw (T.item X rfl rfl rfl hc i pins s3 L H3 X.xe I3 (z ae) ab go) λr s4⟨u,hr,h4⟩=>?_);subst hr;refine zp hp (Bw h4 λ_ s5 zz=>?_);obtain⟨x,H5,I5,r5,y5,Y,ag⟩:=zz;have ah:=I5.pinned (z ag) (T.obj _ _ Y);refine zp hp (Bw (hg _ s5 L H5 x u _ ah r5 (step x H5 y5)) λ_ s6⟨ai,H6,I6,q6⟩=>?_);refine zp hp (Bw (q _ s6 ai H6 _ I6 q6) λf s7 U=>?_);have again:∀{j:St}{M:Hp},Inv X (pins++Tq fp s5.heap) j M s7->N j M->∃m,m<n/\∃i B H',Inv X pins B H' s7/\tn i s7.heap/\(∀b∈fp,H' b=none)/\W i m B H':=λ{j M}O n7=>by
   obtain⟨m',hm,w7⟩:=hN j M n7;refine⟨m',hm,i+1,j,M,O.O3,T.keep _ _ _ Y λb q o e=>(O.pin (b,o) (yb _ (yb _ (N7 q e)))).1,λb q=>?_,w7⟩;obtain⟨o,e,d⟩:=T.obj _ _ Y b q;exact(O.pin (b,o) (yb _ (yb _ (N7 q e)))).2.1
  cases f with
  |next=>obtain⟨j,M,O,n7⟩:=U;exact again O n7
  |cont=>obtain⟨j,M,O,n7⟩:=U;exact again O n7
  |brk=>obtain⟨j,M,O,U⟩:=U;exact⟨j,M,O.O3,U⟩
  |ret v=>obtain⟨x7,j,M,O,r7,U⟩:=U;exact⟨x7,j,M,O.O3,r7,U⟩
end
theorem Bh{K:PySem.W.Frag}{a:Addr}{xs:List V}{g:TG}{tb:TS}{D:Ends}{σ:St}{H:Hp}(Pv:Nat->St->Hp->Prop)(I:Pv 0 σ H)(J:∀i σ H,i<=xs.length->Pv i σ H->Ah K H a xs)
  (L:∀i x σ H,xs[i]?=some x->Pv i σ H->g x σ H λj H2=>tb {D with nx:=Pv (i+1),ct:=Pv (i+1),bk:=D.nx} j H2) (hd:∀σ H,Pv xs.length σ H->D.nx σ H):
  ∃W:Nat->Nat->St->Hp->Prop,(∃m,W 0 m σ H)/\∀i m σ H,W i m σ H->
   ((pV K a).stop i H/\D.nx σ H)\/((pV K a).go i H/\∃N:St->Hp->Prop,(∀n H',N n H'->∃B,B<m/\W (i+1) B n H')/\∀x H',(pV K a).jz i H x H'->g x σ H' λj H2=>tb {D with nx:=N,ct:=N,bk:=D.nx} j H2):=by
 refine⟨λi m σ H=>m=xs.length - i/\i<=xs.length/\Pv i σ H,⟨xs.length,by simp,xi _,I⟩,?_⟩;rintro i m σ H ⟨rfl,hi,p⟩;have q:=J i σ H hi p;by_cases z:i<xs.length
 .refine .inr ⟨⟨xs,xs[i],q,by simp[z]⟩,Pv (i+1),λn H' M=>⟨xs.length - (i+1),Om,rfl,z,M⟩,λx H' y=>?_⟩;obtain⟨e,y⟩:=y;subst e;exact L i x σ _ (y xs q) p
 .have e:i=xs.length:=by lia
  subst e;exact .inl ⟨⟨xs,q,xZ _⟩,hd σ H p⟩
theorem gu{K:PySem.W.Frag}{a:Addr}{xs:List V}{g:TG}{tb:TS}{D:Ends}{σ:St}{H:Hp}(Pv:Nat->St->Hp->Prop)(I:Pv 0 σ H)(J:∀i σ H,i<=xs.length->Pv i σ H->Cd K H a xs)
  (L:∀i x σ H,xs[i]?=some x->Pv i σ H->g x σ H λj H2=>tb {D with nx:=Pv (i+1),ct:=Pv (i+1),bk:=D.nx} j H2) (hd:∀σ H,Pv xs.length σ H->D.nx σ H):
  ∃W:Nat->Nat->St->Hp->Prop,(∃m,W 0 m σ H)/\∀i m σ H,W i m σ H->
   ((su K a).stop i H/\D.nx σ H)\/((su K a).go i H/\∃N:St->Hp->Prop,(∀n H',N n H'->∃B,B<m/\W (i+1) B n H')/\∀x H',(su K a).jz i H x H'->g x σ H' λj H2=>tb {D with nx:=N,ct:=N,bk:=D.nx} j H2):=by
 refine⟨λi m σ H=>m=xs.length - i/\i<=xs.length/\Pv i σ H,⟨xs.length,by simp,xi _,I⟩,?_⟩;rintro i m σ H ⟨rfl,hi,p⟩;have q:=J i σ H hi p;by_cases z:i<xs.length
 .refine .inr ⟨⟨xs,xs[i],q,by simp[z]⟩,Pv (i+1),λn H' M=>⟨xs.length - (i+1),Om,rfl,z,M⟩,λx H' y=>?_⟩;obtain⟨e,y⟩:=y;subst e;exact L i x σ _ (y xs q) p
 .have e:i=xs.length:=by lia
  subst e;exact .inl ⟨⟨xs,q,xZ _⟩,hd σ H p⟩
theorem W9{lo:Int}{n:Nat}{g:TG}{tb:TS}{D:Ends}{σ:St}{H:Hp}(Pv:Nat->St->Hp->Prop)(I:Pv 0 σ H)
  (J:∀i σ H,i<n->Pv i σ H->g (.int (lo+i)) σ H λj H2=>tb {D with nx:=Pv (i+1),ct:=Pv (i+1),bk:=D.nx} j H2) (hd:∀σ H,Pv n σ H->D.nx σ H):
  ∃W:Nat->Nat->St->Hp->Prop,(∃m,W 0 m σ H)/\∀i m σ H,W i m σ H->
   ((m9 lo n).stop i H/\D.nx σ H)\/((m9 lo n).go i H/\∃N:St->Hp->Prop,(∀q H',N q H'->∃B,B<m/\W (i+1) B q H')/\∀x H',(m9 lo n).jz i H x H'->g x σ H' λj H2=>tb {D with nx:=N,ct:=N,bk:=D.nx} j H2):=by
 refine⟨λi m σ H=>m=n - i/\i<=n/\Pv i σ H,⟨n,by simp,xi _,I⟩,?_⟩;rintro i m σ H ⟨rfl,hi,p⟩;by_cases z:i<n
 .refine .inr ⟨z,Pv (i+1),λq H' L=>⟨n - (i+1),Om,rfl,z,L⟩,λx H' y=>?_⟩;obtain⟨e,y⟩:=y;subst e y;exact J i σ _ z p
 .have e:i=n:=by lia
  subst e;exact .inl ⟨xZ _,hd σ H p⟩
abbrev R2:=V->V->Hp->VK->Prop
def Kx(X:Cx)(f:Value->Value->Sem Value)(r:R2):Prop:=
 ∀(pins:List (Addr×Obj))(s:Shared)(σ:St)(H:Hp)(x y:V)(v u:Value)(Q:VK),Inv X pins σ H s->RelV x v->RelV y u->r x y H Q->
  wpAny (model X.prog X.w) X.A (f v u) (EP X pins σ Q) X.xe s
def vc(X:Cx)(f:Value->Sem Value)(r:V->Hp->VK->Prop):Prop:=
 ∀(pins:List (Addr×Obj))(s:Shared)(σ:St)(H:Hp)(x:V)(v:Value)(Q:VK),Inv X pins σ H s->RelV x v->r x H Q->
  wpAny (model X.prog X.w) X.A (f v) (EP X pins σ Q) X.xe s
def Ot(X:Cx)(f:Value)(r:List V->Hp->VK->Prop):Prop:=
 ∀(pins:List (Addr×Obj))(s:Shared)(σ:St)(H:Hp)(xs:List V)(us:List Value)(Q:VK),Inv X pins σ H s->Vals xs us->r xs H Q->
  wpAny (model X.prog X.w) X.A (call f us) (EP X pins σ Q) X.xe s
def sF(r:R2)(ta tb:TE):TE:=λσ H Q=>ta σ H λx H1=>tb σ H1 λy H2=>r x y H2 Q
def wy(r:V->Hp->VK->Prop)(ta:TE):TE:=λσ H Q=>ta σ H λx H1=>r x H1 Q
inductive rI(C:Int->Int->Prop)(g:Int->Int->V)(x:V)(y:V)(H:Hp)(Q:VK):Prop
 |mk (i j) (_:x=.int i) (_:y=.int j) (_:C i j) (_:Q (g i j) H)
inductive ly(g:Int->Int->V)(x:V)(y:V)(H:Hp)(Q:VK):Prop
 |mk (i j) (_:x=.int i) (_:y=.int j) (_:Q (g i j) H)
def rU(g:Int->V):V->Hp->VK->Prop:=λx H Q=>∃i,x=.int i/\Q (g i) H
section
variable{X:Cx}{a b c:Expr}{ta tb tc:TE}{pos:Pos}
theorem sN(q:PE X a ta)(z:PE X b tb){pins:List (Addr×Obj)}{s:Shared}{σ:St}{H:Hp}{R:V->V->Hp->Prop}(I:Inv X pins σ H s)
  (h:ta σ H λx H1=>tb σ H1 λy H2=>R x y H2) {Q:Value->Shared->Prop} {f:Value->Value->Sem Value}
  (B:∀v u n x y H2,Inv X pins σ H2 n->RelV x v->RelV y u->R x y H2->wpAny (model X.prog X.w) X.A (f v u) Q X.xe n):
  wpAny (model X.prog X.w) X.A (eval a X.env) (λv s₁=>wpAny (model X.prog X.w) X.A (eval b X.env) (λu j=>wpAny (model X.prog X.w) X.A (f v u) Q X.xe j) X.xe s₁) X.xe s:=by
 refine Bw (q pins s σ H _ I h) λv J⟨x,H1,L,M,N⟩=>?_;refine Bw (z pins J σ H1 _ L N) λu n⟨y,H2,O,U,Y⟩=>?_;exact B v u n x y H2 O M U Y
theorem Ap{op:Operator}{r:R2}(j:Kx X (binaryOp op) r)(n:PE X a ta)(z:PE X b tb):PE X (.BinOp a op b pos) (sF r ta tb):=by intro pins s σ H Q I h;exact wpAny_BinOp (sN n z I h λv u B x y H2 J L M q=>j pins B σ H2 x y v u Q J L M q)
theorem Ln(j:vc X (unaryOp op) r)(n:PE X a ta):PE X (.UnaryOp op a pos) (wy r ta):=by intro pins s σ H Q I h;exact UnaryOp_ (Bw (n pins s σ H _ I h) λv q⟨x,H1,z,B,J⟩=>j pins q σ H1 x v Q z B J)
theorem u0{f:Value->Value->Sem Value}{C:Int->Int->Prop}{g:Int->Int->Int}
  (rule:∀(i j:Int)(t u:Tok)(s:Shared)(Q:Value->Shared->Prop)(E:Value->Shared->Prop),C i j->Q (.int (g i j) s.toks) {s with toks:=s.toks+1}->wpAny (model X.prog X.w) X.A (f (.int i t) (.int j u)) Q E s):
  Kx X f (rI C λi j=>.int (g i j)):=by
 intro pins s σ H x y v u Q I n z h;obtain⟨i,j,rfl,rfl,B,q⟩:=h;obtain⟨t,rfl⟩:=n;obtain⟨t',rfl⟩:=z;exact rule i j t t' s _ _ B ⟨.int (g i j),H,I.tok _,⟨_,rfl⟩,q⟩
theorem mz{f:Value->Value->Sem Value}{g:Int->Int->Int}
  (rule:∀(i j:Int)(t u:Tok)(s:Shared)(Q:Value->Shared->Prop)(E:Value->Shared->Prop),Q (.int (g i j) s.toks) {s with toks:=s.toks+1}->wpAny (model X.prog X.w) X.A (f (.int i t) (.int j u)) Q E s):
  Kx X f (ly λi j=>.int (g i j)):=by
 intro pins s σ H x y v u Q I n z h;obtain⟨i,j,rfl,rfl,q⟩:=h;obtain⟨t,rfl⟩:=n;obtain⟨t',rfl⟩:=z;exact rule i j t t' s _ _ ⟨.int (g i j),H,I.tok _,⟨_,rfl⟩,q⟩
theorem oo{f:Value->Value->Sem Value}{g:Int->Int->Bool}
  (rule:∀(i j:Int)(t u:Tok)(s:Shared)(Q:Value->Shared->Prop)(E:Value->Shared->Prop),Q (.bool (g i j)) s->wpAny (model X.prog X.w) X.A (f (.int i t) (.int j u)) Q E s):
  Kx X f (ly λi j=>.bl (g i j)):=by
 intro pins s σ H x y v u Q I n z h;obtain⟨i,j,rfl,rfl,q⟩:=h;obtain⟨t,rfl⟩:=n;obtain⟨t',rfl⟩:=z;exact rule i j t t' s _ _ ⟨.bl (g i j),H,I,rfl,q⟩
def vr(i j:Int):Prop:=0<j/\j<1073741824
def wJ(i j:Int):Prop:=0<=j/\j<=1000000/\i.natAbs<2 ^ 64
def qu(i j:Int):Prop:=(-(2 ^ 64)<i/\i<2 ^ 64)\/(-(2 ^ 64)<j/\j<2 ^ 64)
theorem qu.ok(h:qu i j):IntMulOk i j:=by
 rcases h with⟨h1,h2⟩|⟨h1,h2⟩
 .exact .of_left (intBits_le_64 h1 h2)
 .exact .of_right (intBits_le_64 h1 h2)
theorem EK:Kx X (binaryOp .Add) (ly λi j=>.int (i+j)):=mz λ_ _ _ _ _ _ _ q=>add_int q
theorem IH:Kx X (binaryOp .Sub) (ly λi j=>.int (i - j)):=mz λ_ _ _ _ _ _ _ q=>sub_int q
theorem dh:Kx X (binaryOp .Mult) (rI qu λi j=>.int (i*j)):=u0 λ_ _ _ _ _ _ _ n q=>mul_int q n.ok
theorem ZM:Kx X (binaryOp .FloorDiv) (rI vr λi j=>.int (i / j)):=u0 λi j _ _ _ _ _ n q=>by have h1:(0:Int)<j:=n.1;have h2:j<1073741824:=n.2;exact floordiv_int Om (by rw[Int.fdiv_eq_ediv_of_nonneg i Om];exact q) (.inl (PyProof.noPylong_small Om))
theorem rN:Kx X (binaryOp .Mod) (rI (λ_ j=>0<j) λi j=>.int (i % j)):=u0 λi j _ _ _ _ _ n q=>by have h1:(0:Int)<j:=n;exact mod_int' Om (by rw[Int.fmod_eq_emod_of_nonneg i Om];exact q)
theorem sC:Kx X (binaryOp .Pow) (rI wJ λi j=>.int (i ^ j.toNat)):=u0 λ_ _ _ _ _ _ _ n q=>pow_int_small n.1 n.2.1 n.2.2 q
theorem Gm:Kx X (binaryOp .BitAnd) (ly λi j=>.int (Builtin.bitAnd i j)):=mz λ_ _ _ _ _ _ _ q=>and_int q
theorem cu:Kx X (binaryOp .BitOr) (ly λi j=>.int (Builtin.bitOr i j)):=mz λ_ _ _ _ _ _ _ q=>or_int q
theorem sZ:Kx X (binaryOp .BitXor) (ly λi j=>.int (Builtin.bitXor i j)):=mz λ_ _ _ _ _ _ _ q=>xor_int q
theorem xC{f:Value->Sem Value}{g:Int->Int}
  (rule:∀(i:Int)(t:Tok)(s:Shared)(Q:Value->Shared->Prop)(E:Value->Shared->Prop),Q (.int (g i) s.toks) {s with toks:=s.toks+1}->wpAny (model X.prog X.w) X.A (f (.int i t)) Q E s):
  vc X f (rU λi=>.int (g i)):=by
 intro pins s σ H x v Q I j h;obtain⟨i,rfl,q⟩:=h;obtain⟨t,rfl⟩:=j;exact rule i t s _ _ ⟨.int (g i),H,I.tok _,⟨_,rfl⟩,q⟩
theorem Gv:vc X (unaryOp .USub) (rU λi=>.int (-i)):=xC λ_ _ _ _ _ q=>neg_int q
end
noncomputable def tu:V->V->Bool
 | .non,.non=>true| .non,.int _=>true| .int _,.non=>true| .non,.bl _=>true| .bl _,.non=>true| .non,.str _=>true| .str _,.non=>true
 | .int _,.int _=>true| .bl _,.bl _=>true| .str _,.str _=>true| .byt _,.byt _=>true
 | .int _,.str _=>true| .str _,.int _=>true| .bl _,.str _=>true| .str _,.bl _=>true
 |_,_=>false
def w9:R2:=λx y H Q=>tu x y=true/\Q (.bl (decide (x=y))) H
def w6:R2:=λx y H Q=>tu x y=true/\Q (.bl (!decide (x=y))) H
theorem Er:decide (V.int i=V.int j)=(i==j):=by rw[zY];simp
theorem kG:decide (V.bl i=V.bl j)=(i==j):=by rw[zY];simp
theorem iN:decide (V.str i=V.str j)=(i==j):=by rw[zY];simp
theorem gk:decide (V.byt i=V.byt j)=(i.toList==j.toList):=by rw[zY];cases i;cases j;simp
section
variable{X:Cx}{a b c:Expr}{ta tb tc:TE}{pos:Pos}
theorem Bf(I:Inv X pins σ H s)(q:Q (.bl k) H)(e:k=j):EP X pins σ Q (.bool j) s:=by subst e;exact⟨.bl k,H,I,rfl,q⟩
theorem A5:Kx X (compareOp .Eq) w9:=by
 intro pins s σ H x y v u Q I B n h;obtain⟨z,q⟩:=h;cases x with
 |non=>
  cases B;cases y with
  |non=>cases n;exact PySem.EqNone.eq_none_none (Bf I q rfl)
  |bl j=>cases n;exact PySem.EqNone.eq_none_bool (Bf I q rfl)
  |int j=>obtain⟨t',rfl⟩:=n;exact PySem.EqNone.eq_none_int (Bf I q rfl)
  |str j=>obtain⟨t',rfl⟩:=n;exact PySem.EqNone.eq_none_str (Bf I q rfl)
  |_=>exact absurd (show false=true from z) xy
 |bl i=>
  cases B;cases y with
  |non=>cases n;exact PySem.EqNone.eq_bool_none (Bf I q rfl)
  |bl j=>cases n;exact eq_bool (Bf I q kG)
  |str j=>obtain⟨t',rfl⟩:=n;exact PySem.EqMixed.eq_bool_str (Bf I q rfl)
  |_=>exact absurd (show false=true from z) xy
 |int i=>
  obtain⟨t,rfl⟩:=B;cases y with
  |non=>cases n;exact PySem.EqNone.eq_int_none (Bf I q rfl)
  |int j=>obtain⟨t',rfl⟩:=n;exact eq_int (Bf I q Er)
  |str j=>obtain⟨t',rfl⟩:=n;exact PySem.EqMixed.eq_int_str (Bf I q rfl)
  |_=>exact absurd (show false=true from z) xy
 |str i=>
  obtain⟨t,rfl⟩:=B;cases y with
  |non=>cases n;exact PySem.EqNone.eq_str_none (Bf I q rfl)
  |bl j=>cases n;exact PySem.EqMixed.eq_str_bool (Bf I q rfl)
  |int j=>obtain⟨t',rfl⟩:=n;exact PySem.EqMixed.eq_str_int (Bf I q rfl)
  |str j=>obtain⟨t',rfl⟩:=n;exact eq_str (Bf I q iN)
  |_=>exact absurd (show false=true from z) xy
 |byt i=>
  obtain⟨t,rfl⟩:=B;cases y with
  |byt j=>obtain⟨t',rfl⟩:=n;exact PySem.W.eq_bytes (Bf I q gk)
  |_=>exact absurd (show false=true from z) xy
 |_=>cases y<;> exact absurd (show false=true from z) xy
theorem IA:Kx X (compareOp .NotEq) w6:=by
 intro pins s σ H x y v u Q I B n h;obtain⟨z,q⟩:=h;cases x with
 |non=>
  cases B;cases y with
  |non=>cases n;exact PySem.EqNone.ne_none_none (Bf I q rfl)
  |bl j=>cases n;exact PySem.EqNone.ne_none_bool (Bf I q rfl)
  |int j=>obtain⟨t',rfl⟩:=n;exact PySem.EqNone.ne_none_int (Bf I q rfl)
  |str j=>obtain⟨t',rfl⟩:=n;exact PySem.EqNone.ne_none_str (Bf I q rfl)
  |_=>exact absurd (show false=true from z) xy
 |bl i=>
  cases B;cases y with
  |non=>cases n;exact PySem.EqNone.ne_bool_none (Bf I q rfl)
  |bl j=>cases n;exact ne_bool (Bf I q (x3 not kG))
  |str j=>obtain⟨t',rfl⟩:=n;exact PySem.EqMixed.ne_bool_str (Bf I q rfl)
  |_=>exact absurd (show false=true from z) xy
 |int i=>
  obtain⟨t,rfl⟩:=B;cases y with
  |non=>cases n;exact PySem.EqNone.ne_int_none (Bf I q rfl)
  |int j=>obtain⟨t',rfl⟩:=n;exact ne_int (Bf I q (x3 not Er))
  |str j=>obtain⟨t',rfl⟩:=n;exact PySem.EqMixed.ne_int_str (Bf I q rfl)
  |_=>exact absurd (show false=true from z) xy
 |str i=>
  obtain⟨t,rfl⟩:=B;cases y with
  |non=>cases n;exact PySem.EqNone.ne_str_none (Bf I q rfl)
  |bl j=>cases n;exact PySem.EqMixed.ne_str_bool (Bf I q rfl)
  |int j=>obtain⟨t',rfl⟩:=n;exact PySem.EqMixed.ne_str_int (Bf I q rfl)
  |str j=>obtain⟨t',rfl⟩:=n;exact ne_str (Bf I q (x3 not iN))
  |_=>exact absurd (show false=true from z) xy
 |byt i=>
  obtain⟨t,rfl⟩:=B;cases y with
  |byt j=>obtain⟨t',rfl⟩:=n;exact PySem.W.ne_bytes (Bf I q (x3 not gk))
  |_=>exact absurd (show false=true from z) xy
 |_=>cases y<;> exact absurd (show false=true from z) xy
theorem Nz:Kx X (compareOp .Lt) (ly λi j=>.bl (decide (i<j))):=oo λ_ _ _ _ _ _ _ q=>lt_int q
theorem Kb:Kx X (compareOp .LtE) (ly λi j=>.bl (decide (i<=j))):=oo λ_ _ _ _ _ _ _ q=>le_int q
theorem HV:Kx X (compareOp .Gt) (ly λi j=>.bl (decide (j<i))):=oo λ_ _ _ _ _ _ _ q=>gt_int q
theorem pq:Kx X (compareOp .GtE) (ly λi j=>.bl (decide (j<=i))):=oo λ_ _ _ _ _ _ _ q=>ge_int q
theorem Ra:Kx X (compareOp .Is) (λx y H Q=>y=.non/\Q (.bl (decide (x=.non))) H):=by
 intro pins s σ H x y v u Q I j n h;obtain⟨rfl,q⟩:=h;cases n;refine is_none_gen (Bf I q ?_);cases x<;> first
  |(cases j;rfl)
  |(obtain⟨t,rfl⟩:=j;rfl)
theorem oq:Kx X (compareOp .IsNot) (λx y H Q=>y=.non/\Q (.bl (!decide (x=.non))) H):=by
 intro pins s σ H x y v u Q I j n h;obtain⟨rfl,q⟩:=h;cases n;refine isnot_none_gen (Bf I q ?_);cases x<;> first
  |(cases j;rfl)
  |(obtain⟨t,rfl⟩:=j;rfl)
theorem G5(b:Expr)(h:op≠ .In:=by decide)(h2:op≠ .NotIn:=by decide):behindInMarks op b=false:=by
 have e1:(op==CmpOp.In)=false:=by cases op<;> first|rfl|exact absurd rfl h
 have j:(op==CmpOp.NotIn)=false:=by cases op<;> first|rfl|exact absurd rfl h2
 cases b<;> simp[behindInMarks,e1,j]
theorem Eh(j:Kx X (compareOp op) r)(n:PE X a ta)(z:PE X b tb)(B:behindInMarks op b=false):PE X (.Compare a [op] [b] pos) (sF r ta tb):=by intro pins s σ H Q I h;exact wpAny_Compare1 (sN n z I h λv u J x y H2 L M N q=>j pins J σ H2 x y v u Q L M N q) B
inductive qx(Q:Bool->Hp->Prop)(x:V)(H':Hp):Prop
 |mk (k) (_:x=.bl k) (_:Q k H')
def mF(t:TE):TT:=λσ H Q=>t σ H (qx Q)
theorem TR(j:Kx X (compareOp op) r)(n:PE X a ta)(q:PE X b tb)(B:behindInMarks op b=false):PT X (.Compare a [op] [b] pos) (mF (sF r ta tb)):=by
 intro pins s σ H Q I h;refine wpAny_isTrue_Compare1 (Bw (n pins s σ H _ I h) λv J⟨x,H1,L,M,N⟩=>Bw (q pins J σ H1 _ L N) λu O⟨y,H2,U,Y,q2⟩=>
  Bw (j pins O σ H2 x y v u _ U M Y q2) λc s3⟨z,H3,I3,r3,k,e,q3⟩=>?_) B
 subst e;cases r3;exact zA ⟨H3,I3,q3⟩
inductive nZ(r':R2)(tc:TE)(σ:St)(Q:VK)(y:V)(z:V)(H3:Hp):Prop
 |mk (k) (_:z=.bl k) (_:(if k=true then tc σ H3 λw' H4=>r' y w' H4 Q else Q (.bl false) H3))
def lW(r j:R2)(ta tb tc:TE):TE:=λσ H Q=>ta σ H λx H1=>tb σ H1 λy H2=>r x y H2 (nZ j tc σ Q y)
theorem cH(M:Kx X (compareOp op) r)(n:Kx X (compareOp j) N)(O:PE X a ta)(U:PE X b tb)(Y:PE X c tc)
  (hm:lastMarks [op,j] [b,c]=false:=by with_unfolding_all rfl):PE X (.Compare a [op,j] [b,c] pos) (lW r N ta tb tc):=by
 intro pins s σ H Q I h;refine Compare_chain (Bw (O pins s σ H _ I h) λv s1⟨x,H1,I1,r1,q1⟩=>chain_link (Bw (U pins s1 σ H1 _ I1 q1) λu s2⟨y,H2,I2,q,q2⟩=>
  Bw (M pins s2 σ H2 x y v u _ I2 r1 q q2) λd s3⟨z,B,J,r3,k,e,L⟩=>?_)) hm
 subst e;cases r3;refine zA ?_;cases k with
 |false=>exact ite_ff ⟨.bl false,B,J,rfl,L⟩
 |true=>exact ite_tt (chain_last (Bw (Y pins s3 σ B _ J L) λw' s4⟨z',H4,I4,r4,q4⟩=>n pins s4 σ H4 y z' u w' Q I4 q r4 q4))
theorem mM(M:Kx X (compareOp op) r)(n:Kx X (compareOp j) N)(O:PE X a ta)(U:PE X b tb)(Y:PE X c tc)
  (hm:lastMarks [op,j] [b,c]=false:=by with_unfolding_all rfl):PT X (.Compare a [op,j] [b,c] pos) (mF (lW r N ta tb tc)):=by
 intro pins s σ H Q I h;refine isTrue_chain (Bw (O pins s σ H _ I h) λv s1⟨x,H1,I1,r1,q1⟩=>test_link (Bw (U pins s1 σ H1 _ I1 q1) λu s2⟨y,H2,I2,q,q2⟩=>
  Bw (M pins s2 σ H2 x y v u _ I2 r1 q q2) λd s3⟨z,B,J,r3,k,e,L⟩=>?_)) hm
 subst e;cases r3;refine zA ?_;cases k with
 |false=>obtain⟨k',e',q'⟩:=L;cases e';exact ite_ff ⟨B,J,q'⟩
 |true=>refine ite_tt (test_last (Bw (Y pins s3 σ B _ J L) λw' s4⟨z',H4,I4,r4,q4⟩=>Bw (n pins s4 σ H4 y z' u w' _ I4 q r4 q4) λd' s5⟨z2,H5,I5,r5,k2,e2,q5⟩=>?_));subst e2;cases r5;exact zA ⟨H5,I5,q5⟩
theorem ZF:(sizeLine:Nat)<2 ^ 63:=by rw[AAL];decide
theorem vals1(r:Vals [x] us):∃u,us=[u]/\RelV x u:=by
 cases r with
 |cons j n=>cases n;exact⟨_,rfl,j⟩
end
structure fG(h:Heap)(x dx C:Addr)(mA:Str->Option Value):Prop where
 obj:h.get? x=some (PySem.W.instObj C dx)
 ns:h.Ns1 dx mA
 ne:dx≠x
theorem je{h:Heap}{dx:Addr}{mA:Str->Option Value}(n:h.Ns1 dx mA):∃B,h.get? dx=some B/\∀name,PySem.W.lookIn name B=some (mA name):=by
 obtain⟨o,es,ep,I,hd,J,_,L⟩:=n;refine⟨o,I,λname=>?_⟩;have e:=L name;unfold nsFind findBy at e;rw[<-Array.find?_toList]at e;unfold PySem.W.lookIn;rw[hd];dsimp only;split
 .rename_i y q;rw[q]at e;exact x3 some e
 .rename_i q;rw[q]at e;have a:es.toList.any (·.refKey)=false:=by
   rw[List.any_eq_false];intro y M;obtain⟨z,t,j⟩:=J y (Array.mem_toList_iff.mp M);simp[DictEntry.refKey,j]
  have N:¬es.toList.any (·.refKey)=true:=by rw[a];exact xy
  rw[xJ N];exact x3 some e
theorem fG.look(I:fG h x dx C mA):∃j,PySem.W.InstAt h x (PySem.W.instObj C dx) C (some j)/\∀name,PySem.W.lookIn name j=some (mA name):=
 let⟨j,n,q⟩:=je I.ns
 ⟨j,⟨I.obj,rfl,rfl,n⟩,q⟩
section
variable{prog:Program}{w:World}{A:Around}{E:Value->Shared->Prop}{s:Shared}{K:PySem.W.Frag}{x dx C f:Addr}{mA:Str->Option Value}{name:Str}{v:Value}
theorem get_map(X:K.In s.heap)(I:fG s.heap x dx C mA)(n:PySem.W.plainGet K C name=true)(q:PySem.W.hasDictIn K C=true)
  (z:PySem.W.findIn K (.ref C) name=some none) (B:mA name=some v) (j:PySem.W.handedIn v=true) (h:Q v {s with toks:=s.toks+1}):
  wpAny (model prog w) A (getAttr (.ref x) name expr) Q E s:=by
 obtain⟨M,J,L⟩:=I.look;exact PySem.W.get_value X J (ABN n).1 (PySem.W.findObj_own q z rfl (by rw[L,B])) j h
theorem mK(X:K.In s.heap)(I:fG s.heap x dx C mA)(j:PySem.W.plainGet K C name=true)
  (n:PySem.W.findIn K (.ref C) name=some (some (.ref f))) (q:PySem.W.isFn K (.ref f)=true) (z:mA name=none) (h:Q (.ref f,[.ref x]) s):
  wpAny (model prog w) A (getMethod (.ref x) name pl) Q E s:=by
 obtain⟨B,J,L⟩:=I.look;exact PySem.W.method_fn X J (ABN j).1 (ABN j).2 n (zv.mp q) (by show(PySem.W.lookIn name B).map (·.isSome)=some false;rw[L,z];rfl) h
theorem oA(X:K.In s.heap)(I:fG s.heap x dx C mA)
  (M:PySem.W.findIn K (.ref C) "__setattr__"=some (some (.builtin "object.__setattr__"))) (N:PySem.W.plainOver K C=true) (O:PySem.W.takerIn K C name=some none) (U:PySem.W.hasDictIn K C=true)
  (Y:PySem.Within mA ns) (hsz:ns.length<=sizeLine)
  (h:∀h',fG h' x dx C (λy=>if y=name then some v else mA y)->Heap.SameBut dx s.heap h'->Q () {s with heap:=h',toks:=s.toks+2}):
  wpAny (model prog w) A (setAttr (.ref x) name v) Q E s:=by
 obtain⟨od,J,hl⟩:=I.look;refine PySem.W.set_plain X J M (PySem.W.osa_open (s:={s with toks:=s.toks+1}) (r:=none) X J N O λb=>?_);obtain⟨cd,hc,q⟩:=PySem.W.any_some U;have hx:s.heap.get? x=some ⟨.ref C,some dx,.plain,#[]⟩:=I.obj;refine xG (xU (xG (xG (wpAny_loadPart hx (xG (PySem.W.Looks.here (s:={s with toks:=s.toks+1}) (PySem.W.looks_clsIn X hc) ?_))))));rw[q];refine xU (a:=some dx) (xG (xU (xG ?_)));refine wpAny_nsSet1 (s:={s with toks:=s.toks+1}) I.ns λh' j n=>?_;obtain⟨oD,aa,ab,z,B,L⟩:=j.count (PySem.Within.cons name v Y);refine xG (wpAny_lookBehind z (by rw[B];exact pastItsLine_dict (xr L (by rw[xg];lia))) ?_);exact xU (h _ ⟨(n.2 _ (x8 I.ne)).trans I.obj,j,I.ne⟩ n)
theorem k7{R:Result->Shared->Prop}{vs:List Value}{j:List (Str×Value)}(X:K.In s.heap)(n:PySem.W.makesIn K C=true)
  (hi:PySem.W.findIn K (.ref C) "__init__"=some (some (.ref f))) (q:PySem.W.typeIn K (.ref f)=some (.type "function"))
  (h:codeAny (model prog w) (A.under (.builtin "type.__call__" ⟨.ref C::vs,j⟩)) (.call (.ref f) ⟨.ref (s.heap.objs.size+1)::vs,j⟩) (PySem.W.InitBack (s.heap.objs.size+1) R)
   {s with heap:=(s.heap.push PySem.W.emptyDict).push (PySem.W.instObj C s.heap.objs.size)}):
  codeAny (model prog w) A (.call (.ref C) ⟨vs,j⟩) R s:=by
 obtain⟨z,g,d,t,os⟩:=s;exact PySem.W.make_core (PySem.W.makes_of X n) (PySem.W.looks_findIn X hi) (λself=>PySem.W.bind_fn X self q) (.inl rfl) h
end
noncomputable def Ad(f:Str)(v:V):List (Str×V)->List (Str×V)
 |[]=>[(f,v)]
 |(g,x)::r=>if g=f then(g,v)::r else(g,x)::Ad f v r
theorem AJ(f g:Str)(v:V):∀fs:List (Str×V),(Ad f v fs).lookup g=if g=f then some v else fs.lookup g
 |[]=>by
  show List.lookup g [(f,v)]=_;by_cases h:g=f
  .have j:(g==f)=true:=zv.mpr h;simp only[List.lookup,j,xQ h]
  .have j:(g==f)=false:=yF.mpr h;simp only[List.lookup,j,xJ h]
 |(k,x)::r=>by
  have q:=AJ f g v r;rw[show Ad f v ((k,x)::r)=(if k=f then(k,v)::r else(k,x)::Ad f v r)from rfl];by_cases n:k=f
  .rw[xQ n];by_cases h:g=k
   .have j:(g==k)=true:=zv.mpr h;simp only[List.lookup,j,xQ (h.trans n)]
   .have j:(g==k)=false:=yF.mpr h;simp only[List.lookup,j,xJ (λe:g=f=>h (e.trans n.symm))]
  .rw[xJ n];by_cases h:g=k
   .have j:(g==k)=true:=zv.mpr h;simp only[List.lookup,j,xJ (λe:g=f=>n (h.symm.trans e))]
   .have j:(g==k)=false:=yF.mpr h;simp only[List.lookup,j];exact q
theorem RA(f:Str)(v:V):∀fs:List (Str×V),f∈(Ad f v fs).map (·.1)/\∀g,g∈fs.map (·.1)->g∈(Ad f v fs).map (·.1)
 |[]=>⟨by simp[Ad],λg h=>by simp at h⟩
 |(k,x)::r=>by
  obtain⟨n,q⟩:=RA f v r;rw[show Ad f v ((k,x)::r)=(if k=f then(k,v)::r else(k,x)::Ad f v r)from rfl];by_cases j:k=f
  .rw[xQ j];subst j;exact⟨by simp,λg h=>by simpa using h⟩
  .rw[xJ j];refine⟨?_,λg h=>?_⟩
   .rw[yE];exact xY _ n
   .rw[yE]at h⊢;rcases xb.mp h with e|e
    .exact xb.mpr (.inl e)
    .exact xY _ (q g e)
theorem Ar(f:Str)(v:V):∀fs:List (Str×V),(Ad f v fs).length<=fs.length+1
 |[]=>by simp[Ad]
 |(k,x)::r=>by
  have n:=Ar f v r;rw[show Ad f v ((k,x)::r)=(if k=f then(k,v)::r else(k,x)::Ad f v r)from rfl];by_cases j:k=f
  .rw[xQ j,xg,xg];lia
  .rw[xJ j,xg,xg];lia
theorem Jz.some_of(r:Jz (some v) o):∃u,o=some u/\RelV v u:=by
 cases o with
 |none=>exact(show False from r).elim
 |some u=>exact⟨u,rfl,r⟩
theorem Jz.none_of(r:Jz none o):o=none:=by
 cases o with
 |none=>rfl
 |some u=>exact(show False from r).elim
theorem jK(r:RelV v u):PySem.W.handedIn u=true:=by
 cases v with
 |non=>cases(show u=Value.none from r);rfl
 |bl b=>cases(show u=Value.bool b from r);rfl
 |int i=>obtain⟨t,e⟩:=(show∃t,u=Value.int i t from r);cases e;rfl
 |str x=>obtain⟨t,e⟩:=(show∃t,u=Value.str x t from r);cases e;rfl
 |byt b=>obtain⟨t,e⟩:=(show∃t,u=Value.bytes b t from r);cases e;rfl
 |flt b=>obtain⟨t,e⟩:=(show∃t,u=Value.float b t from r);cases e;rfl
 |ref a=>cases(show u=Value.ref a from r);rfl
 |ty n=>cases(show u=Value.type n from r);rfl
section
variable{P:Program}{w:World}{H H':Hp}{h h':Heap}{a C dx:Addr}{fs fs':List (Str×V)}
theorem ZS(j:Kw P w H h)(e:H a=some (.ins C dx fs)):∃mA,fG h a dx C mA/\(∀f,Jz (fs.lookup f) (mA f))/\PySem.Within mA (fs.map (·.1))/\fs.length<=1000/\H dx=some (.own a):=by obtain⟨d,z,ne,B,mA,n,r,q⟩:=(show CC P w H h a (.ins C dx fs)from j a _ e);exact⟨mA,⟨B,n,ne⟩,r,q,z,d⟩
end
structure Yg(K:PySem.W.Frag)(C:Addr):Prop where
 pg:PySem.W.plainGet K C Str.empty=true
 hd:PySem.W.hasDictIn K C=true
 po:PySem.W.plainOver K C=true
 sa:PySem.W.findIn K (.ref C) "__setattr__"=some (some (.builtin "object.__setattr__"))
theorem Yg.get{K:PySem.W.Frag}{C:Addr}(c:Yg K C)(f:Str):PySem.W.plainGet K C f=true:=c.pg
def Bj(K:PySem.W.Frag)(C:Addr)(f:Str):Prop:=PySem.W.findIn K (.ref C) f=some none
theorem Bj.tS{K:PySem.W.Frag}{C:Addr}{f:Str}(n:Bj K C f):PySem.W.takerIn K C f=some none:=by unfold PySem.W.takerIn;rw[show PySem.W.findIn K (.ref C) f=some none from n];rfl
structure Meth(K:PySem.W.Frag)(C:Addr)(m:Str)(f:Addr):Prop where
 at_:PySem.W.findIn K (.ref C) m=some (some (.ref f))
 fn:PySem.W.isFn K (.ref f)=true
 kp:PySem.W.keepIn K (.ref f)=true
section
variable{X:Cx}{pins:List (Addr×Obj)}{σ:St}{H:Hp}{s:Shared}{a C dx:Addr}{fs:List (Str×V)}{f:Str}{v:V}{A:Around}{E:Value->Shared->Prop}
theorem fK(I:Inv X pins σ H s)(e:H a=some (.ins C dx fs))(c:Yg X.K C)(n:Bj X.K C f)(l:fs.lookup f=some v)
  (h:∀u s',Inv X pins σ H s'->RelV v u->Q u s'):wpAny (model X.prog X.w) A (getAttr (.ref a) f b) Q E s:=by
 obtain⟨mA,O,r,_,_,_⟩:=ZS I.Cb e;obtain⟨u,q,j⟩:=Jz.some_of (v:=v) (o:=mA f) (by rw[<-l];exact r f);exact get_map I.WL O (c.get f) c.hd n q (jK j) (h u _ (I.tok _) j)
theorem N6(I:Inv X pins σ H s)(e:H a=some (.ins C dx fs))(c:Yg X.K C)(k:Meth X.K C m g)(l:fs.lookup m=none)
  (h:Q (.ref g,[.ref a]) s):wpAny (model X.prog X.w) A (getMethod (.ref a) m pl) Q E s:=by
 obtain⟨mA,O,r,_,_,_⟩:=ZS I.Cb e;have j:mA m=none:=Jz.none_of (by rw[<-l];exact r m);exact mK I.WL O (c.get m) k.at_ k.fn j h
theorem eA(I:Inv X pins σ H s)(e:H a=some (.ins C dx fs))(c:Yg X.K C)(n:Bj X.K C f)(hl:fs.length<1000)(L:RelV y u)
  (h:∀s',Inv X pins σ (upd H a (.ins C dx (Ad f y fs))) s'->Q () s'):wpAny (model X.prog X.w) A (setAttr (.ref a) f u) Q E s:=by
 obtain⟨mA,O,r,B,_,J⟩:=ZS I.Cb e;have hz:(fs.map (·.1)).length<=sizeLine:=by rw[xH,AAL];lia
 refine oA I.WL O c.sa c.po n.tS c.hd B hz λh' j M=>h _ ?_;have hd:∃o,h'.get? dx=some o:=let⟨o,_,_,N,_⟩:=j.ns;⟨o,N⟩;refine I.write (x:=a) (e:=dx) (by rw[e];exact True.intro) (.inr J) (λb q U z=>(M.2 b U).trans z) hd ?_;refine⟨by rw[AG O.ne];exact J,?_,O.ne,j.obj,_,j.ns,λg=>?_,λg Y=>?_⟩
 .have:=Ar f y fs;lia
 .show Jz ((Ad f y fs).lookup g) (if g=f then some u else mA g);rw[AJ];by_cases q:g=f
  .rw[xQ q,xQ q];exact L
  .rw[xJ q,xJ q];exact r g
 .by_cases q:g=f
  .rw[q];exact(RA f y fs).1
  .refine(RA f y fs).2 g (B g λz=>Y ?_);show(if g=f then some u else mA g)=none;rw[xJ q];exact z
theorem Inv.made(I:Inv X pins σ H s):Inv X pins σ (upd (upd H s.heap.objs.size (.own (s.heap.objs.size+1))) (s.heap.objs.size+1) (.ins C s.heap.objs.size []))
  {s with heap:=(s.heap.push PySem.W.emptyDict).push (PySem.W.instObj C s.heap.objs.size)}:=by
 have e1:(s.heap.push PySem.W.emptyDict).get? s.heap.objs.size=some PySem.W.emptyDict:=xf s.heap rfl;have j:((s.heap.push PySem.W.emptyDict).push (PySem.W.instObj C s.heap.objs.size)).get? (s.heap.objs.size+1)=some (PySem.W.instObj C s.heap.objs.size):=by have:=xf (s.heap.push PySem.W.emptyDict) (o:=PySem.W.instObj C s.heap.objs.size) rfl;rwa[x9]at this
 have n:(s.heap.push PySem.W.emptyDict).Ns s.heap.objs.size (λ_=>none):=⟨PySem.W.emptyDict,#[],_,e1,rfl,(λe z=>absurd z (by simp)),λ_=>rfl⟩;have B:=I.laid (a:=s.heap.objs.size) (o:=.own (s.heap.objs.size+1)) (h':=s.heap.push PySem.W.emptyDict) (t':=s.toks) (λb u q=>xN _ q) (xZ _) ⟨_,e1⟩;refine B.laid (a:=s.heap.objs.size+1) (o:=.ins C s.heap.objs.size []) (t':=s.toks) (λb u q=>xN _ q) (ABs (x9 _ _)) ?_;have ne:s.heap.objs.size≠s.heap.objs.size+1:=x6 (z3 _);refine⟨by rw[AG ne,AB],xi _,ne,j,λ_=>none,(Heap.Ns1.of_empty n).at λo q=>xN _ q,λ_=>True.intro,λy J=>absurd rfl J⟩
theorem nI(n:attributeBase e f j (eval e j)=eval e j)
  (h:wpAny (model prog w) A (eval e j) (λo s₁=>wpAny (model prog w) A (getAttr o f true) Q E s₁) E s):wpAny (model prog w) A (eval (.Attribute e f pos) j) Q E s:=
 Attribute_any_ h (by rw[arm_eval_Attribute,n])
end
inductive uU(K:PySem.W.Frag)(f:Str)(Q:VK)(x:V)(H1:Hp):Prop
 |mk (a C dx fs v) (_:x=.ref a) (_:H1 a=some (.ins C dx fs)) (_:Yg K C) (_:Bj K C f) (_:fs.lookup f=some v) (_:Q v H1)
def oG(K:PySem.W.Frag)(ta:TE)(f:Str):TE:=λσ H Q=>ta σ H (uU K f Q)
def uf(K:PySem.W.Frag)(ta tv:TE)(f:Str):TS:=λD σ H=>tv σ H λy H1=>ta σ H1 λx H2=>∃a C dx fs,x=.ref a/\H2 a=some (.ins C dx fs)/\Yg K C/\Bj K C f/\fs.length<1000/\
 D.nx σ (upd H2 a (.ins C dx (Ad f y fs)))
section
variable{X:Cx}{o e value:Expr}{f:Str}{pos pos' tpos:Pos}{ta tv:TE}
theorem AO(j:PE X e ta)(z:attributeBase e f X.env (eval e X.env)=eval e X.env):PE X (.Attribute e f pos) (oG X.K ta f):=by intro pins s σ H Q I h;refine nI z (Bw (j pins s σ H _ I h) λu U B=>?_);obtain⟨x,H1,J,L,a,C,dx,fs,v,ex,M,c,n,l,q⟩:=B;subst ex;obtain rfl:u=Value.ref a:=L;exact fK J M c n l λY s2 N O=>⟨v,H1,N,O,q⟩
theorem CG(j:PE X o ta)(z:PE X value tv)(B:swapsWith value (some (.Attribute o f pos')) pos.line X.env=pure false):PS X (.Assign [.Attribute o f pos'] value pos) (uf X.K ta tv f):=by intro pins s σ H D I h;refine plainObj_wpAny_Assign_Attribute (Bw (z pins s σ H _ I h) λu J⟨y,H1,L,M,q⟩=>Bw (j pins J σ H1 _ L q) λN s2 O=>?_) B;obtain⟨x,H2,U,Y,a,C,dx,fs,ex,ea,c,n,l,q2⟩:=O;subst ex;obtain rfl:N=Value.ref a:=Y;exact eA U ea c n l M λs3 I3=>⟨σ,_,I3,q2⟩
theorem pw(B:PE X e te)(I:Inv X pins σ H s)
  (h:te σ H λx H1=>∃a C dx fs g,x=.ref a/\H1 a=some (.ins C dx fs)/\Yg X.K C/\Meth X.K C m g/\fs.lookup m=none/\
   ∀j,Inv X pins σ H1 j->wpAny (model X.prog X.w) X.A (callWith pos (.ref g) [.ref a] (backTo pos (starEach args X.env)) (backToKw pos (keywordEach [] X.env))) Q X.xe j)
  (J:eval (.Call (.Attribute e m apos) args [] pos) X.env=(do
   let n<-eval e X.env
   standAt apos.atName
   let(f,first)<-holding [n] (getMethod n m pl)
   callWith pos f first (backTo pos (starEach args X.env)) (backToKw pos (keywordEach [] X.env)))):
  wpAny (model X.prog X.w) X.A (eval (.Call (.Attribute e m apos) args [] pos) X.env) Q X.xe s:=by
 refine AA8 (pl:=pl) (Bw (B pins s σ H _ I h) λu j L=>?_) J;obtain⟨x,H1,z,M,a,C,dx,fs,g,ex,N,c,k,l,q⟩:=L;subst ex;obtain rfl:u=Value.ref a:=M;exact N6 z N c k l (q j z)
end
structure DI(k:Nat)(A:Around):Prop where
 hd:A.handled=none
 dp:A.depth+3*k+5<recursionLimit
 un:A.units+16*k+200<cLine
theorem DI.mono(r:DI k A)(h:j<=k):DI j A:=⟨r.hd,by have:=r.dp;lia,by have:=r.un;lia⟩
theorem DI.deeper(r:DI (k+1) A)(j:Env):DI k (A.deeper j):=
 ⟨r.hd,by have:=r.dp;show A.depth+1+3*k+5<_;lia,by have:=r.un;show A.units+3+16*k+200<_;lia⟩
theorem DI.in1(r:DI (k+1) A):DI k A.in1:=
 ⟨r.hd,by have:=r.dp;show A.depth+3*k+5<_;lia,by have:=r.un;show A.units+1+16*k+200<_;lia⟩
theorem eK{A:Around}{C:Addr}{us:List Value}{j:List (Str×Value)}:(A.under (.builtin "type.__call__" ⟨.ref C::us,j⟩)).depth=A.depth+1:=by
 first|rfl|simp[Around.under,Code.weight,Code.isCreation,Code.isGuard,Code.isCaller,Code.frames,Code.isFrame,guardIds]
theorem eu{A:Around}{C:Addr}{us:List Value}{j:List (Str×Value)}:(A.under (.builtin "type.__call__" ⟨.ref C::us,j⟩)).units=A.units+1:=by
 first|rfl|simp[Around.under,Code.cUnits,Code.frames,Code.isFrame]
theorem DI.make(r:DI (k+1) A)(C:Addr)(us:List Value)(j:List (Str×Value)):DI k (A.under (.builtin "type.__call__" ⟨.ref C::us,j⟩)):=
 ⟨r.hd,by have:=r.dp;rw[eK];lia,by have:=r.un;rw[eu];lia⟩
theorem DI.depth(r:DI k A):A.depth<recursionLimit:=by have:=r.dp;lia
theorem DI.units(r:DI k A):A.units+64<cLine:=by have:=r.un;lia
def jR:TA:=λ_ H Q=>Q [] H
def mN(ta:TE)(j:TA):TA:=λσ H Q=>ta σ H λx H1=>j σ H1 λxs H2=>Q (x::xs) H2
section
variable{X:Cx}{e:Expr}{es:List Expr}{te:TE}{t:TA}{pos:Pos}
theorem AE:PA X [] jR:=λ_ _ _ _ H Q I h=>ABh ⟨[],H,I,.nil,h⟩
theorem AA(j:PE X e te)(n:PA X es t)(q:starEach (e::es) X.env=(false,eval e X.env)::starEach es X.env:=by rfl):PA X (e::es) (mN te t):=by intro pos pins s σ H Q I h;rw[q];show wpAny _ _ (spliced ((false,eval e X.env)::backTo pos (starEach es X.env))) _ _ s;refine AAG (Bw (j pins s σ H _ I h) λu z⟨x,H1,B,J,L⟩=>?_);exact Bw (n pos pins z σ H1 _ B L) λus U⟨xs,H2,M,N,O⟩=>⟨x::xs,H2,M,.cons J N,O⟩
def vb(t:TA):TE:=λσ H Q=>t σ H λxs H1=>xs.length<=sizeLine/\∀p,H1 p=none->Q (.ref p) (upd H1 p (.tup xs))
def vZ(t:TA):TE:=λσ H Q=>t σ H λxs H1=>xs.length<=sizeLine/\∀p,H1 p=none->Q (.ref p) (upd H1 p (.lst xs))
theorem FI{B}(h:PA X es t):PE X (.Tuple es B pos) (vb t):=by intro pins s σ H Q I J;refine wpAny_Tuple_spliced (Bw (h pos pins s σ H _ I J) λus j⟨xs,H1,n,r,z,q⟩=>⟨by rw[<-r.length];exact z,?_⟩);have L:H1 j.heap.objs.size=none:=n.Cb.fresh (xZ _);refine⟨.ref j.heap.objs.size,upd H1 j.heap.objs.size (.tup xs),n.laid (t':=j.toks) (λb u e=>xN _ e) (xZ _) ?_,rfl,q _ L⟩;exact⟨z,us,r,⟨_,xf _ rfl,rfl,_,rfl⟩⟩
theorem AZ(h:PA X es t):PE X (.List es pos) (vZ t):=by intro pins s σ H Q I B;refine wpAny_List_spliced (Bw (h pos pins s σ H _ I B) λus j⟨xs,H1,n,r,z,q⟩=>⟨by rw[<-r.length];exact z,?_⟩);have J:H1 j.heap.objs.size=none:=n.Cb.fresh (xZ _);refine⟨.ref j.heap.objs.size,upd H1 j.heap.objs.size (.lst xs),n.laid (t':=j.toks) (λb u e=>xN _ e) (xZ _) ?_,rfl,q _ J⟩;exact⟨z,us,0,r,xf _ rfl⟩
end
abbrev Sp:=List V->Hp->VK->XK->Prop
abbrev j9:=List Env->Hp->Shared->XK->Value->Shared->Prop
structure Wm(P:Program)(w:World)(K:PySem.W.Frag)(mg:Str->Option Value)(base:Heap)(A:Around)(outer:List Env)(s:Shared)(H:Hp):Prop where
 frames:A.frames=some outer
 mod:Mod K mg base
 bs:∀b o,base.get? b=some o->s.heap.get? b=some o/\H b=none
 kT:base.objs.size<=s.heap.objs.size
 Q8:s.heap.FunFrames base outer
 qD:∀b∈mE outer,H b=none
 Cb:Kw P w H s.heap
 bare:AllBare s.gens
inductive CE(outer:List Env)(P:Program)(w:World)(H:Hp)(s:Shared)(Q:VK)(u:Value)(s':Shared):Prop
 |mk (v H') (_:s'.os=s.os) (_:AllBare s'.gens) (_:Un (mE outer) [] H H' s.heap s'.heap) (_:Kw P w H' s'.heap) (_:RelV v u) (_:Q v H')
def CR(CX:j9)(j:List Env)(P:Program)(w:World)(H:Hp)(s:Shared)(Q:VK)(E:XK)(r:Result)(s':Shared):Prop:=
 match r with
 | .ok (.ret u)=>CE j P w H s Q u s'
 | .ok _=>False
 | .error e=>CX j H s E e s'
structure IV(P:Program)(w:World)(K:PySem.W.Frag)(mg:Str->Option Value)(base:Heap)(CX:j9)(k:Nat)(f:Addr)(fd:FuncData)(ps:List Str)(sp:Sp):Prop where
 len:∀vs H Q E,sp vs H Q E->vs.length=ps.length
 run:∀(A:Around)(outer:List Env)(s:Shared)(H:Hp)(args:Args)(us:List Value)(vs:List V)(Q:VK)(E:XK),DI k A->Wm P w K mg base A outer s H->BindsTo s fd args (ps.zip us)->Vals vs us->sp vs H Q E->
  codeAny (model P w) A (.call (.ref f) args) (CR CX outer P w H s Q E) s
theorem Wm.make{P:Program}{w:World}{K:PySem.W.Frag}{mg:Str->Option Value}{base:Heap}{A:Around}{j:List Env}{s:Shared}{H:Hp}(e:Wm P w K mg base A j s H)(C:Addr)(us:List Value)(n:List (Str×Value)):
  Wm P w K mg base (A.under (.builtin "type.__call__" ⟨.ref C::us,n⟩)) j s H:=⟨by first|exact e.frames|(simpa[Around.under,Code.envs,Code.isFrame,pushEnvs]using e.frames),e.mod,e.bs,e.kT,e.Q8,e.qD,e.Cb,e.bare⟩
theorem Wm.in1{P:Program}{w:World}{K:PySem.W.Frag}{mg:Str->Option Value}{base:Heap}{A:Around}{j:List Env}{s:Shared}{H:Hp}(e:Wm P w K mg base A j s H):
  Wm P w K mg base A.in1 j s H:=⟨e.frames,e.mod,e.bs,e.kT,e.Q8,e.qD,e.Cb,e.bare⟩
section
variable{X:Cx}{pins:List (Addr×Obj)}{σ:St}{H:Hp}{s s':Shared}
theorem Inv.rm(I:Inv X pins σ H s):Wm X.prog X.w X.K X.mg X.base X.A X.stack s H:=
 ⟨I.ok.frames,I.ok.mod,I.bs,xr I.ok.kT I.sz,I.stack,I.gM,I.Cb,I.bare⟩
theorem Inv.after(I:Inv X pins σ H s)(h:CE X.stack X.prog X.w H s Q u s'):EP X pins σ Q u s':=by obtain⟨v,H',os,bare,un,j,r,q⟩:=h;obtain⟨B,g,d,t,n⟩:=s';obtain rfl:n=s.os:=os;exact⟨v,H',I.call (h':=B) (g':=g) (d':=d) (t':=t) (ch:=[]) un j bare (λb z=>absurd z (by simp)),r,q⟩
end
def kr(sp:Sp)(dvs:List V)(E:XK)(t:TA):TE:=λσ H Q=>t σ H λvs H1=>sp (vs++dvs) H1 Q E
inductive qU(C:Addr)(m:Str)(sp:Sp)(dvs:List V)(E:XK)(t:TA)(σ:St)(Q:VK)(x:V)(H1:Hp):Prop
 |mk (a dx fs) (_:x=.ref a) (_:H1 a=some (.ins C dx fs)) (_:fs.lookup m=none) (_:t σ H1 λvs H2=>sp (x::(vs++dvs)) H2 Q E)
def lR(C:Addr)(m:Str)(sp:Sp)(dvs:List V)(E:XK)(ta:TE)(t:TA):TE:=λσ H Q=>ta σ H (qU C m sp dvs E t σ Q)
def pS(C:Addr)(sp:Sp)(dvs:List V)(E:XK)(t:TA):TE:=λσ H Q=>t σ H λvs H1=>∀x dx,H1 x=none->H1 dx=none->dx≠x->
 sp (.ref x::(vs++dvs)) (upd (upd H1 dx (.own x)) x (.ins C dx [])) (λv H2=>v=.non/\Q (.ref x) H2) E
def Binds(K:PySem.W.Frag)(fd:FuncData)(ps:List Str)(ds:List Value):Prop:=
 ∀(s:Shared)(us:List Value),K.In s.heap->(us++ds).length=ps.length->BindsTo s fd ⟨us,[]⟩ (ps.zip (us++ds))
theorem Binds.all{K:PySem.W.Frag}{fd:FuncData}{ps:List Str}(h:∀us:List Value,us.length=ps.length->bindArgs fd ⟨us,[]⟩=pure (ps.zip us)):Binds K fd ps []:=λs us _ j=>by rw[yJ]at j⊢;exact .of_eq (h us j)
def Passes(CX:j9)(X:Cx)(E:XK):Prop:=∀(pins:List (Addr×Obj))(σ:St)(H:Hp)(s:Shared)(e:Value)(s':Shared),Inv X pins σ H s->CX X.stack H s E e s'->X.xe e s'
section
variable{X:Cx}{CX:j9}{k:Nat}{f C:Addr}{fd:FuncData}{ps:List Str}{sp:Sp}{dvs:List V}{ds:List Value}{E:XK}{x m:Str}{p pos apos:Pos}{e o:Expr}{es:List Expr}{ta:TE}{t:TA}
theorem X7(F:IV X.prog X.w X.K X.mg X.base CX k f fd ps sp)(q:DI k X.A)(z:Binds X.K fd ps ds)(hd:Vals dvs ds)(B:Passes CX X E)
  (I:Inv X pins σ H s) (r:Vals vs us) (h:sp (vs++dvs) H Q E):wpAny (model X.prog X.w) X.A (call (.ref f) us) (EP X pins σ Q) X.xe s:=by
 have n:Vals (vs++dvs) (us++ds):=r.append hd;have J:(us++ds).length=ps.length:=by rw[<-n.length];exact F.len _ _ _ _ h
 refine wpAny_call (zl (F.run X.A X.stack s H ⟨us,[]⟩ (us++ds) (vs++dvs) Q E q I.rm (z s us I.WL J) n h) λr s' j=>?_);cases r with
 |error e=>exact B pins σ H s e s' I j
 |ok L=>
  cases L with
  |ret u=>exact I.after j
  |next=>exact False.elim j
  |brk=>exact False.elim j
  |cont=>exact False.elim j
theorem ng(F:IV X.prog X.w X.K X.mg X.base CX k f fd ps sp)(B:DI k X.A)(J:Gl X x)(L:X.mg x=some (.ref f))(M:PySem.W.keepIn X.K (.ref f)=true)(N:Binds X.K fd ps ds)(hd:Vals dvs ds)(O:Passes CX X E)
  (U:PA X (e::es) t) (j:(x==("__debug__":Str))=false:=by decide) (Y:starEach (e::es) X.env=(false,eval e X.env)::starEach es X.env:=by rfl) (n:(backTo pos (starEach es X.env)).any (·.1)=false:=by rfl):
  PE X (.Call (.Name x p) (e::es) [] pos) (kr sp dvs E t):=by
 intro pins s σ H Q I h;refine zV (Qh I J L ?_ j);refine ABV (h₀:=X.base) I.ok.mod.uT M (Bw (U pos pins s σ H _ I h) λus s1⟨vs,H1,z,r,q⟩=>⟨z.WL,?_⟩) Y n;exact X7 F B N hd O z r q
theorem m8(F:IV X.prog X.w X.K X.mg X.base CX k f fd ps sp)(n:DI k X.A)(q:Gl X x)(z:X.mg x=some (.ref f))(B:PySem.W.keepIn X.K (.ref f)=true)(J:Binds X.K fd ps ds)(hd:Vals dvs ds)(L:Passes CX X E)
  (j:(x==("__debug__":Str))=false:=by decide):PE X (.Call (.Name x p) [] [] pos) (kr sp dvs E jR):=by
 intro pins s σ H Q I h;refine zV (Qh I q z ?_ j);exact ABO I.WL B (X7 (us:=[]) F n J hd L I .nil h)
theorem nU(M:PE X o ta)(c:Yg X.K C)(z:Meth X.K C m f)(F:IV X.prog X.w X.K X.mg X.base CX k f fd ps sp)(N:DI k X.A)(O:Binds X.K fd ps ds)(hd:Vals dvs ds)(U:Passes CX X E)(Y:PA X (e::es) t)
  (j:starEach (e::es) X.env=(false,eval e X.env)::starEach es X.env:=by rfl) (n:(backTo pos (starEach es X.env)).any (·.1)=false:=by rfl)
  (ht:eval (.Call (.Attribute o m apos) (e::es) [] pos) X.env=(do
   let B<-eval o X.env
   standAt apos.atName
   let(f,first)<-holding [B] (getMethod B m pl)
   callWith pos f first (backTo pos (starEach (e::es) X.env)) (backToKw pos (keywordEach [] X.env))):=by rfl):
  PE X (.Call (.Attribute o m apos) (e::es) [] pos) (lR C m sp dvs E ta t):=by
 intro pins s σ H Q I h;refine AA8 (pl:=pl) (Bw (M pins s σ H _ I h) λu s1 zz=>?_) ht;obtain⟨x,H1,J,rx,a,dx,fs,ex,ea,l,q⟩:=zz;subst ex;obtain rfl:u=Value.ref a:=rx;refine N6 J ea c z l ?_;refine ABV (first:=[.ref a]) (h₀:=X.base) I.ok.mod.uT z.kp (Bw (Y pos pins s1 σ H1 _ J q) λus s2⟨vs,H2,L,r,q2⟩=>⟨L.WL,?_⟩) j n;exact X7 (us:=.ref a::us) (vs:=.ref a::vs) F N O hd U L (.cons rfl r) q2
theorem lL(B:PE X o ta)(c:Yg X.K C)(n:Meth X.K C m f)(F:IV X.prog X.w X.K X.mg X.base CX k f fd ps sp)(J:DI k X.A)(L:Binds X.K fd ps ds)(hd:Vals dvs ds)(M:Passes CX X E)
  (N:eval (.Call (.Attribute o m apos) [] [] pos) X.env=(do
   let z<-eval o X.env
   standAt apos.atName
   let(f,first)<-holding [z] (getMethod z m pl)
   callWith pos f first (backTo pos (starEach [] X.env)) (backToKw pos (keywordEach [] X.env))):=by rfl):
  PE X (.Call (.Attribute o m apos) [] [] pos) (lR C m sp dvs E ta jR):=by
 intro pins s σ H Q I h;refine AA8 (pl:=pl) (Bw (B pins s σ H _ I h) λu s1 O=>?_) N;obtain⟨x,H1,j,U,a,dx,fs,ex,Y,l,q⟩:=O;subst ex;obtain rfl:u=Value.ref a:=U;refine N6 j Y c n l ?_;exact ABO (first:=[.ref a]) j.WL n.kp (X7 (us:=[.ref a]) (vs:=[.ref a]) F J L hd M j (.cons rfl .nil) q)
structure Mk(K:PySem.W.Frag)(C f:Addr):Prop where
 makes:PySem.W.makesIn K C=true
 init:PySem.W.findIn K (.ref C) "__init__"=some (some (.ref f))
 fn:PySem.W.isFn K (.ref f)=true
 kp:PySem.W.keepIn K (.ref C)=true
theorem bG(M:Mk X.K C f)(F:IV X.prog X.w X.K X.mg X.base CX k f fd ps sp)(B:DI (k+1) X.A)(J:Binds X.K fd ps ds)(hd:Vals dvs ds)
  (L:Passes CX X E) (I:Inv X pins σ H s) (r:Vals vs us)
  (h:∀x dx,H x=none->H dx=none->dx≠x->sp (.ref x::(vs++dvs)) (upd (upd H dx (.own x)) x (.ins C dx [])) (λv H2=>v=.non/\Q (.ref x) H2) E):
  wpAny (model X.prog X.w) X.A (call (.ref C) us) (EP X pins σ Q) X.xe s:=by
 have q:=h (s.heap.objs.size+1) s.heap.objs.size (I.Cb.fresh (z0 _)) (I.Cb.fresh (xZ _)) (x6 (z3 _));have n:=Inv.made (C:=C) I;have z:Vals (V.ref (s.heap.objs.size+1)::(vs++dvs)) (Value.ref (s.heap.objs.size+1)::(us++ds)):=.cons rfl (r.append hd);have N:(Value.ref (s.heap.objs.size+1)::us++ds).length=ps.length:=by have e:=z.length;rw[F.len _ _ _ _ q]at e;exact e.symm
 refine wpAny_call (k7 (f:=f) I.WL M.makes M.init (zv.mp M.fn) (zl (F.run _ X.stack _ _ ⟨Value.ref (s.heap.objs.size+1)::us,[]⟩ (Value.ref (s.heap.objs.size+1)::(us++ds)) _ _ E (B.make C us [])
  (n.rm.make C us []) (J _ (Value.ref (s.heap.objs.size+1)::us) n.WL N) z q) λr s' j=>?_))
 cases r with
 |error e=>exact L pins σ _ _ e s' n j
 |ok O=>
  cases O with
  |ret u=>obtain⟨v,H',U,Y,ev,q3⟩:=n.after j;subst ev;exact⟨Y,⟨V.ref (s.heap.objs.size+1),H',U,rfl,q3⟩⟩
  |next=>exact False.elim j
  |brk=>exact False.elim j
  |cont=>exact False.elim j
theorem TZ(M:Mk X.K C f)(F:IV X.prog X.w X.K X.mg X.base CX k f fd ps sp)(B:DI (k+1) X.A)(J:Gl X x)(L:X.mg x=some (.ref C))(N:Binds X.K fd ps ds)(hd:Vals dvs ds)(O:Passes CX X E)
  (U:PA X (e::es) t) (j:(x==("__debug__":Str))=false:=by decide) (Y:starEach (e::es) X.env=(false,eval e X.env)::starEach es X.env:=by rfl) (n:(backTo pos (starEach es X.env)).any (·.1)=false:=by rfl):
  PE X (.Call (.Name x p) (e::es) [] pos) (pS C sp dvs E t):=by
 intro pins s σ H Q I h;refine zV (Qh I J L ?_ j);refine ABV (h₀:=X.base) I.ok.mod.uT M.kp (Bw (U pos pins s σ H _ I h) λus s1⟨vs,H1,z,r,q⟩=>⟨z.WL,?_⟩) Y n;exact bG M F B N hd O z r q
theorem Tg(M:Mk X.K C f)(F:IV X.prog X.w X.K X.mg X.base CX k f fd ps sp)(n:DI (k+1) X.A)(q:Gl X x)(z:X.mg x=some (.ref C))(B:Binds X.K fd ps ds)(hd:Vals dvs ds)(J:Passes CX X E)
  (j:(x==("__debug__":Str))=false:=by decide):PE X (.Call (.Name x p) [] [] pos) (pS C sp dvs E jR):=by
 intro pins s σ H Q I h;refine zV (Qh I q z ?_ j);exact ABO I.WL M.kp (bG (us:=[]) M F n B hd J I .nil h)
end
def PK(X:Cx)(kws:List Keyword)(t:TA):Prop:=
 ∀(pos:Pos)(pins:List (Addr×Obj))(s:Shared)(σ:St)(H:Hp)(Q:List V->Hp->Prop),Inv X pins σ H s->t σ H Q->wpAny (model X.prog X.w) X.A (evalAll ((backToKw pos (keywordEach kws X.env)).map (·.2))) (AP X pins σ Q) X.xe s
section
variable{X:Cx}{CX:j9}{k:Nat}{f C:Addr}{fd:FuncData}{ps ks:List Str}{sp:Sp}{E:XK}{x m:Str}{p pos apos kpos:Pos}{e o:Expr}{es:List Expr}{kws:List Keyword}{te ta:TE}{t tk:TA}{nm:Option Str}
theorem qp:PK X [] jR:=λ_ _ _ _ H Q I h=>wpAny_evalAll_nil ⟨[],H,I,.nil,h⟩
theorem oQ(j:PE X e te)(n:PK X kws t):PK X (⟨nm,e,kpos⟩::kws) (mN te t):=by intro pos pins s σ H Q I h;show wpAny _ _ (evalAll ((do let v<-eval e X.env;standAt pos;pure v)::(backToKw pos (keywordEach kws X.env)).map (·.2))) _ _ s;refine wpAny_evalAll_cons (xG (Bw (j pins s σ H _ I h) λu q⟨x,H1,z,B,J⟩=>xG (ABa (xU ?_))));exact Bw (n pos pins q σ H1 _ z J) λus O⟨xs,H2,L,M,N⟩=>⟨x::xs,H2,L,.cons B M,N⟩
variable{g:List Value->List Value->List Value}{gV:List V->List V->List V}
end
structure Pc(N P:List Str)(sc:Scope):Prop where
 kind:sc.kind=.function
 co:sc.isCoroutine=false
 gen:sc.isGenerator=false
 nd:N.Nodup
 pre:N.take P.length=P
 par:∀x∈P,sc.names.lookup x=some .local\/sc.names.lookup x=some .cell
 ri:∀y∈sc.names,y.2≠ .free
theorem XU{kindOf:Str->Option NameKind}{x:Str}:∀{binds:List (Str×Value)}{m:Str->Option Value},(∀v,(x,v)∉binds)->bindL kindOf binds m x=m x
 |[],_,_=>rfl
 |(n,v)::r,m,h=>by
  unfold bindL;rw[XU λw j=>h w (xY _ j)];split
  .have:x≠n:=by rintro rfl;exact h v xl
   simp[this]
  .rfl
theorem Wt{kindOf:Str->Option NameKind}{x:Str}:∀{binds:List (Str×Value)}{m:Str->Option Value},(∀v,(x,v)∉binds)->bindC kindOf binds m x=m x
 |[],_,_=>rfl
 |(n,v)::r,m,h=>by
  unfold bindC;rw[Wt λw j=>h w (xY _ j)];split
  .rfl
  .have:x≠n:=by rintro rfl;exact h v xl
   simp[this]
theorem XO{kindOf:Str->Option NameKind}{x:Str}{v:Value}:∀{P:List Str}{vs:List Value}{i:Nat}{m:Str->Option Value},P.Nodup->P[i]?=some x->vs[i]?=some v->kindOf x=some .local->
  bindL kindOf (P.zip vs) m x=some v
 |[],_,_,_,_,h,_,_=>by simp at h
 |_::_,[],_,_,_,_,h,_=>by simp at h
 |p::P,w::vs,0,m,j,h1,h2,n=>by simp at h1 h2;subst h1;subst h2;show bindL kindOf ((p,w)::P.zip vs) m p=_;unfold bindL;rw[XU λv q=>(yA.mp j).1 (ABC q).1,xQ n];simp
 |p::P,w::vs,i+1,m,j,h1,h2,n=>by show bindL kindOf ((p,w)::P.zip vs) m x=_;unfold bindL;exact XO (i:=i) (yA.mp j).2 (by simpa using h1) (by simpa using h2) n
theorem XC{kindOf:Str->Option NameKind}{x:Str}{v:Value}:∀{P:List Str}{vs:List Value}{i:Nat}{m:Str->Option Value},P.Nodup->P[i]?=some x->vs[i]?=some v->kindOf x≠some .local->
  bindC kindOf (P.zip vs) m x=some v
 |[],_,_,_,_,h,_,_=>by simp at h
 |_::_,[],_,_,_,_,h,_=>by simp at h
 |p::P,w::vs,0,m,j,h1,h2,n=>by simp at h1 h2;subst h1;subst h2;show bindC kindOf ((p,w)::P.zip vs) m p=_;unfold bindC;rw[Wt λv q=>(yA.mp j).1 (ABC q).1,xJ n];simp
 |p::P,w::vs,i+1,m,j,h1,h2,n=>by show bindC kindOf ((p,w)::P.zip vs) m x=_;unfold bindC;exact XC (i:=i) (yA.mp j).2 (by simpa using h1) (by simpa using h2) n
noncomputable def start(N:List Str)(vs:List V):St:=vs.map some++List.replicate (N.length - vs.length) none
noncomputable def A0(CX:j9)(P:Program)(w:World)(K:PySem.W.Frag)(mg:Str->Option Value)(base:Heap)(N:List Str)(qual:Str)(j:Scope)(f:Addr)(q:Value)(A:Around)(outer:List Env)(s:Shared)(H:Hp)(E:XK):Cx where
 prog:=P
 w:=w
 K:=K
 mg:=mg
 base:=base
 A:=A.deeper (envOfC qual j s.heap.objs.size f q)
 N:=N
 Zg:=s
 rh:=H
 env:=envOfC qual j s.heap.objs.size f q
 outer:=outer
 stack:=envOfC qual j s.heap.objs.size f q::outer
 ex:=[]
 calm:=true
 fn:=λ_=>true
 pn:=[]
 xe:=λe s'=>wpAny (model P w) (A.deeper (envOfC qual j s.heap.objs.size f q)) (leaving (envOfC qual j s.heap.objs.size f q) e) (λ_ n=>CX outer H s E e n) (λz n=>CX outer H s E z n) s'
theorem bp{j:Scope}{n:Nat}{x:Str}(h:j.names.lookup x=some .cell):∃c,(cellsFrom n j.names []).lookup x=some c:=by have q:=PySem.W.cellsFrom_some j.names n [] (.inl h);exact ABt.mp q
theorem j4{CX:j9}{P:Program}{w:World}{K:PySem.W.Frag}{mg:Str->Option Value}{base:Heap}{N ps:List Str}{qual:Str}{j:Scope}{f:Addr}{U:Value}{A:Around}{B:List Env}{s Y:Shared}{H:Hp}{E:XK}{us:List Value}{vs:List V}
  (S:Pc N ps j) (hd:A.handled=none) (I:Wm P w K mg base A B s H) (hl:vs.length=ps.length) (r:Vals vs us)
  (x:InCallC s s.heap.objs.size (bindL (envOfC qual j s.heap.objs.size f U).kindOf (ps.zip us) λ_=>none) (cellsFrom (s.heap.objs.size+1) j.names []) (bindC (envOfC qual j s.heap.objs.size f U).kindOf (ps.zip us) λ_=>none) Y):
  Inv (A0 CX P w K mg base N qual j f U A B s H E) [] (start N vs) H Y:=by
 have aa:ps.length<=N.length:=by have:=x3 List.length S.pre;rw[xt]at this;lia
 obtain⟨h1,tk,rfl,hk⟩:=x.done;have J:∀b:Addr,b∉(A0 CX P w K mg base N qual j f U A B s H E).ex:=λb z=>absurd (show b∈([]:List Addr)from z) (by simp);refine⟨⟨I.mod,S.kind,rfl,rfl,xZ _,λy z c h1 h2=>?_,λy L=>?_,λy c _ h=>?_,λ_=>hd,Around.frames_deeper I.frames,.inr ⟨rfl,rfl⟩,λb z=>absurd z (J b),I.bs,I.kT,λb _ _=>J b,λb z=>absurd z (J b),I.Q8,I.qD⟩,
  rfl,I.bare,Un.kept hk,⟨_,x.toInCall.ns,λi y v h1 h2 h3=>?_⟩,λy c h=>⟨_,x.cell y c h⟩,I.Cb.fresh (xZ _),λy c h=>?_,λp M=>absurd (show p∈([]:List (Addr×Obj))from M) (by simp),I.Cb.kept hk,?_⟩
 .exact name_of_addr x.apart (yK h1) (yK h2)
 .have L:j.names.lookup y=some .cell\/j.names.lookup y=some .free:=L;rcases L with L|L
  .exact bp L
  .exact absurd rfl (S.ri _ (yK L))
 .exact AAP (x.above y c (yK h))
 .have hi:i<vs.length:=by
   unfold start at h2;by_cases hi:i<vs.length
   .exact hi
   .rw[ABb (by simpa using hi)]at h2;rw[List.getElem?_replicate]at h2;split at h2<;> cases h2
  have ha:vs[i]?=some v:=by
   unfold start at h2;rw[AAb (by simpa using hi),xh]at h2;cases e:vs[i]? with
   |none=>rw[e]at h2;cases h2
   |some a=>rw[e]at h2;cases h2;rfl
  obtain⟨u,hu,rv⟩:=r.get ha;have M:ps[i]?=some y:=by rw[<-S.pre,List.getElem?_take_of_lt Om];exact h1
  have O:ps.Nodup:=by rw[<-S.pre];exact S.nd.sublist (List.take_sublist _ _)
  refine⟨u,rv,?_⟩;rcases S.par y (xO M)with k|k
  .exact .inl ⟨k,XO O M hu k⟩
  .obtain⟨c,e⟩:=bp (n:=s.heap.objs.size+1) k;refine .inr ⟨.inl k,c,e,?_⟩;have q:=x.cell y c e;rw[XC O M hu (by show j.names.lookup y≠_;rw[k];decide)]at q;exact q
 .exact I.Cb.fresh (AAP (x.above y c (yK h)))
 .unfold start;show _=N.length;rw[xS,xH,List.length_replicate];lia
theorem uK{CX:j9}{P:Program}{w:World}{K:PySem.W.Frag}{mg:Str->Option Value}{base:Heap}{k:Nat}{f:Addr}{name qual:Str}{L:Arguments}{body:List Stmt}{j:Scope}{dV kV aa pm B ct oc:Value}{an od:Option Addr}
  {ae:Array (Option Value)} {N ps:List Str} {sp:Sp} (lk:K.lookup f=some ⟨oc,od,.func (PySem.W.fnOf name qual L body j dV kV aa pm an B ct),ae⟩) (af:PySem.W.codeIn K B qual=true) (S:Pc N ps j)
  (len:∀vs H Q E,sp vs H Q E->vs.length=ps.length)
  (O:∀(A:Around)(z:List Env)(s:Shared)(H:Hp)(vs:List V)(Q:VK)(E:XK),DI k (A.deeper (envOfC qual j s.heap.objs.size f B))->sp vs H Q E->
   ∃t,gX (A0 CX P w K mg base N qual j f B A z s H E) body t/\t {nx:=λ_ H'=>Q .non H',rt:=Q} (start N vs) H):
  IV P w K mg base CX (k+1) f (PySem.W.fnOf name qual L body j dV kV aa pm an B ct) ps sp:=by
 refine⟨len,λA z s H args us vs Q E hr e0 hb r ab=>?_⟩;have hl:=len _ _ _ _ ab;have KX:K.In s.heap:=e0.mod.uT.keeps λb o e=>(e0.bs b o e).1;have ag:s.heap.NoLimit:=e0.mod.nolimit.keeps λb o e=>(e0.bs b o e).1;have U:∀y∈ps.zip us,j.names.lookup y.1=some .local\/(j.names.lookup y.1=some .cell/\((cellsFrom (s.heap.objs.size+1) j.names []).lookup y.1).isSome=true):=λ⟨n,v⟩hy=>by
  rcases S.par n (ABC hy).1 with q|q
  .exact .inl q
  .exact .inr ⟨q,PySem.W.cellsFrom_some _ _ _ (.inl q)⟩
 refine codeAny_call_function hr.depth (KX _ _ lk) rfl S.co S.gen rfl (PySem.W.codeRec_of KX af) (hb _ _ _ _ ?_);refine wpAny_newFunctionEnv_cells S.kind U λah he s1 x=>?_;subst he;refine⟨ag.keeps x.toInCall.keep,codeAny_func ?_⟩;obtain⟨t,ht,hq⟩:=O A z s H vs Q E (hr.deeper _) ab;have I:Inv (A0 CX P w K mg base N qual j f B A z s H E) [] (start N vs) H s1:=j4 S hr.hd e0 hl r x;refine y4 (ht [] s1 (start N vs) H _ I hq) (λfl s' Y=>?_) λe s' Y=>Y;have fin:∀{M:St}{H':Hp}{v:V}{u:Value},Inv (A0 CX P w K mg base N qual j f B A z s H E) [] M H' s'->RelV v u->Q v H'->CE z P w H s Q u s':=
  λ{M H' v u}J rv q=>⟨v,H',J.os,J.bare,J.base,J.Cb,rv,q⟩
 cases fl with
 |ret u=>obtain⟨v,M,H',J,rv,q⟩:=Y;exact fin J rv q
 |next=>obtain⟨M,H',J,q⟩:=Y;exact fin (v:=V.non) (u:=Value.none) J rfl q
 |brk=>obtain⟨_,_,_,q⟩:=Y;exact False.elim q
 |cont=>obtain⟨_,_,_,q⟩:=Y;exact False.elim q
section
variable{X:Cx}{x:Str}{p pos:Pos}{e:Expr}{es:List Expr}{t:TA}{id T:String}{r:List V->Hp->VK->Prop}
def vR(r:List V->Hp->VK->Prop)(t:TA):TE:=λσ H Q=>t σ H λvs H1=>r vs H1 Q
theorem Fm(q:Ot X (.builtin id) r)(z:Gl X x)(B:X.mg x=none)(J:bootBuiltins x=some (.builtin id))(L:PA X (e::es) t)(M:x≠"__name__":=by decide)(j:(x==("__debug__":Str))=false:=by decide)
  (N:starEach (e::es) X.env=(false,eval e X.env)::starEach es X.env:=by rfl) (n:(backTo pos (starEach es X.env)).any (·.1)=false:=by rfl):PE X (.Call (.Name x p) (e::es) [] pos) (vR r t):=by
 intro pins s σ H Q I h;refine zV (Lv I z B J ?_ M j);exact PyProof.Rows.callWith_builtin1 (Bw (L pos pins s σ H _ I h) λus O⟨vs,H1,U,Y,q1⟩=>q pins O σ H1 vs us Q U Y q1) N n
theorem RS(q:Ot X (.type T) r)(z:Gl X x)(B:X.mg x=none)(J:bootBuiltins x=some (.type T))(L:PA X (e::es) t)(M:x≠"__name__":=by decide)(j:(x==("__debug__":Str))=false:=by decide)
  (N:starEach (e::es) X.env=(false,eval e X.env)::starEach es X.env:=by rfl) (n:(backTo pos (starEach es X.env)).any (·.1)=false:=by rfl):PE X (.Call (.Name x p) (e::es) [] pos) (vR r t):=by
 intro pins s σ H Q I h;refine zV (Lv I z B J ?_ M j);exact yz (Bw (L pos pins s σ H _ I h) λus O⟨vs,H1,U,Y,q1⟩=>q pins O σ H1 vs us Q U Y q1) N n
end
end L2
namespace HT
open PySem PyProof.Rows
section
variable{prog:Program}{w:World}{A:Around}{E:Value->Shared->Prop}{s:Shared}
noncomputable def Yo(n d:Nat):Option Int->Nat
 |none=>d
 |some v=>if v<0 then(v+(n:Int)).toNat else min v.toNat n
theorem Uc(n d:Nat):Yo n d none=d:=rfl
theorem TY(n d k:Nat):Yo n d (some (k:Int))=min k n:=by show(if(k:Int)<0 then((k:Int)+(n:Int)).toNat else min (k:Int).toNat n)=min k n;rw[xJ Om,yG]
end
end HT
namespace L2
open PySem PySem.Spec PyProof.Rows
abbrev TO:=St->Hp->(Option Int->Hp->Prop)->Prop
def PO(X:Cx)(e:Option Expr)(t:TO):Prop:=
 ∀(pins:List (Addr×Obj))(s:Shared)(σ:St)(H:Hp)(Q:Option Int->Hp->Prop),Inv X pins σ H s->t σ H Q->
  wpAny (model X.prog X.w) X.A (evalPart e X.env) (λu s'=>∃o H',Inv X pins σ H' s'/\IsPart u o/\Q o H') X.xe s
def oJ:TO:=λ_ H Q=>Q none H
inductive qo(Q:Option Int->Hp->Prop)(x:V)(H1:Hp):Prop
 |mk (i) (_:x=.int i) (_:Q (some i) H1)
def uG(t:TE):TO:=λσ H Q=>t σ H (qo Q)
section
variable{X:Cx}{e:Expr}{te:TE}{lo hi:Option Expr}{tl th:TO}{pos p2:Pos}
theorem J7:PO X none oJ:=by intro pins s σ H Q I h;rw[evalPart_none];exact xU ⟨none,H,I,.none,h⟩
theorem Dn(h:PE X e te):PO X (some e) (uG te):=by intro pins s σ H Q I j;rw[evalPart_some];refine Bw (h pins s σ H _ I j) λu J⟨x,H1,n,z,B⟩=>?_;obtain⟨i,rfl,q⟩:=B;obtain⟨t,rfl⟩:=z;exact⟨some i,H1,n,.int i t,q⟩
def wh(X:Cx)(r:V->Option Int->Option Int->Hp->VK->Prop):Prop:=
 ∀(pins:List (Addr×Obj))(s:Shared)(σ:St)(H:Hp)(x:V)(v j n:Value)(lo hi:Option Int)(q:Addr)(Q:VK),Inv X pins σ H s->RelV x v->s.heap.IsSliceOf q j n .none->IsPart j lo->IsPart n hi->r x lo hi H Q->
  ∃T id,typeLookup (.type T) "__getitem__"=pure (some (.builtin id))/\s.TypeIs v T/\wpAny (model X.prog X.w) X.A (getItem v (.ref q)) (EP X pins σ Q) X.xe s
def xF(r:V->Option Int->Option Int->Hp->VK->Prop)(te:TE)(tl th:TO):TE:=λσ H Q=>te σ H λx H1=>tl σ H1 λl H2=>th σ H2 λu j=>r x l u j Q
theorem D0(J:wh X r)(L:PE X e te)(M:PO X lo tl)(N:PO X hi th):PE X (.Subscript e (.Slice lo hi none p2) pos) (xF r te tl th):=by intro pins s σ H Q I h;refine Subscript_ (Bw (L pins s σ H _ I h) λv O⟨x,H1,U,Y,q1⟩=>?_);refine wpAny_Slice (Bw (M pins O σ H1 _ U q1) λn s2⟨l,H2,I2,pl,q2⟩=>Bw (N pins s2 σ H2 _ I2 q2) λz j⟨u,B,I3,pu,q3⟩=>?_);rw[evalPart_none];refine xU ?_;have I4:Inv X pins σ B {j with heap:=j.heap.push {cls:=.type "slice",data:=.fields #[n,z,.none]}}:=I3.kept (t':=j.toks) λb ob q=>xN _ q;obtain⟨T,id,hT,ht,hg⟩:=J pins {j with heap:=j.heap.push {cls:=.type "slice",data:=.fields #[n,z,.none]}} σ B x v n z l u j.heap.objs.size Q I4 Y (Heap.IsSliceOf.new ..) pl pu q3;show wpAny (model X.prog X.w) X.A (subscriptTail e (.Slice lo hi none p2) v (.ref j.heap.objs.size)) (EP X pins σ Q) X.xe {j with heap:=j.heap.push {cls:=.type "slice",data:=.fields #[n,z,.none]}};exact tail_any (ops:=[.ref j.heap.objs.size,v]) ht hT hg (by with_unfolding_all rfl)
def GP(xs:List V)(lo hi:Option Int):List V:=(xs.drop (HT.Yo xs.length 0 lo)).take (HT.Yo xs.length xs.length hi - HT.Yo xs.length 0 lo)
theorem bE(xs:List V)(lo hi:Option Int):(GP xs lo hi).length<=xs.length:=by unfold GP;rw[xt,zh];lia
end
noncomputable def f6(n:Nat)(i:Int):Option Nat:=if 0<=i then(if i<n then some i.toNat else none)else if -(n:Int)<=i then some (i+n).toNat else none
def ji(xs:List n)(i:Int):Option n:=(f6 xs.length i).bind λj=>xs[j]?
theorem hH(h:f6 n i=some j):seqIndex? i n=some j/\j<n/\ -(n:Int)<=i/\i<n:=by
 unfold f6 at h;by_cases q:0<=i
 .rw[xQ q]at h;by_cases h1:i<n
  .rw[xQ h1]at h;have e:i.toNat=j:=xn h;exact⟨by rw[seqIndex_of q h1,e],Om,Om,h1⟩
  .rw[xJ h1]at h;cases h
 .rw[xJ q]at h;by_cases h1: -(n:Int)<=i
  .rw[xQ h1]at h;have e:(i+n).toNat=j:=xn h;exact⟨by rw[seqIndex_neg Om h1,e],Om,h1,Om⟩
  .rw[xJ h1]at h;cases h
theorem gZ(h:ji xs i=some v):∃j,seqIndex? i xs.length=some j/\xs[j]?=some v/\j<xs.length/\ -(xs.length:Int)<=i/\i<xs.length:=by
 unfold ji at h;cases e:f6 xs.length i with
 |none=>rw[e]at h;cases h
 |some j=>rw[e]at h;obtain⟨h1,h2,n,q⟩:=hH e;exact⟨j,h1,h,h2,n,q⟩
theorem gz{n:Type}{xs:List n}{j:Nat}{v:n}(h:xs[j]?=some v):ji xs (j:Int)=some v:=by
 have q:j<xs.length:=(xP.mp h).1;have e:f6 xs.length (j:Int)=some j:=by unfold f6;rw[xQ Om,xQ Om];simp
 unfold ji;rw[e];exact h
theorem QV(xs:List j)(v:j):ji (xs++[v]) (-1)=some v:=by
 have n:(xs++[v]).length=xs.length+1:=by simp
 have e:f6 (xs++[v]).length (-1)=some xs.length:=by
  unfold f6;rw[n,xJ Dc,xQ Om]
  congr 1
  lia
 unfold ji;rw[e];show(xs++[v])[xs.length]?=some v;simp
def iC(b:Expr):Prop:=∀o i,subscripted b false o i=operate [o,i] (getItem o i)
def wO(X:Cx)(r:R2):Prop:=
 ∀(value slice:Expr)(pins:List (Addr×Obj))(s:Shared)(σ:St)(H:Hp)(x y:V)(v u:Value)(Q:VK),Inv X pins σ H s->RelV x v->RelV y u->r x y H Q->
  subscripted slice false v u=operate [v,u] (getItem v u)->wpAny (model X.prog X.w) X.A (subscriptTail value slice v u) (EP X pins σ Q) X.xe s
def we(X:Cx)(id:String)(r:V->List V->Hp->VK->Prop):Prop:=
 ∀(pins:List (Addr×Obj))(s:Shared)(σ:St)(H:Hp)(x:V)(xs:List V)(v:Value)(us:List Value)(Q:VK),Inv X pins σ H s->RelV x v->Vals xs us->r x xs H Q->
  wpAny (model X.prog X.w) X.A (call (.builtin id) (v::us)) (EP X pins σ Q) X.xe s
section
variable{X:Cx}{a b:Expr}{ta tb:TE}{pos:Pos}
theorem Gs(j:wO X r)(n:PE X a ta)(z:PE X b tb)(B:iC b):PE X (.Subscript a b pos) (sF r ta tb):=by intro pins s σ H Q I h;exact Subscript_ (sN n z I h λv u J x y H2 L M N q=>j a b pins J σ H2 x y v u Q L M N q (B _ _))
inductive qg(K:PySem.W.Frag)(x:V)(y:V)(H:Hp)(Q:VK):Prop
 |mk (p xs i v) (_:x=.ref p) (_:y=.int i) (_:Ah K H p xs) (_:ji xs i=some v) (_:Q v H)
inductive wC(K:PySem.W.Frag)(x:V)(y:V)(H:Hp)(Q:VK):Prop
 |mk (p xs i v) (_:x=.ref p) (_:y=.int i) (_:Cd K H p xs) (_:ji xs i=some v) (_:Q v H)
theorem pH:wO X (qg X.K):=by
 intro value slice pins s σ H x y v u Q I N O h J;obtain⟨p,xs,i,z,rfl,rfl,U,Y,q⟩:=h;cases N;obtain⟨t,rfl⟩:=O;obtain⟨its,r,pl,hz⟩:=I.list U;obtain⟨j,h1,h2,h3,h4,h5⟩:=gZ Y;obtain⟨w,L,n⟩:=r.get h2;have hl:=r.length;have hn:=ZF;have fin:EP X pins σ Q w s:=⟨z,H,I,n,q⟩;by_cases M:0<=i
 .have B:i.toNat=j:=by
   rw[seqIndex_of M h5]at h1;exact xn h1
  exact item_listR pl.isList M Om (by rw[B];simpa using L) fin J
 .have B:(i+(its.toArray.size:Int)).toNat=j:=by
   rw[seqIndex_neg Om h4]at h1;rw[x1,<-hl];exact xn h1
  exact subscriptTail_builtinR (x:=w) pl.isList.typeIs slot_list_getitem.lookup
   (wpAny_getItem_list_neg (Q:=λr s'=>r=w/\EP X pins σ Q r s') pl.isList Om (by rw[x1]<;> lia) Om (by rw[B];simpa using L) ⟨rfl,fin⟩) J
theorem Em:wO X (wC X.K):=by
 intro value slice pins s σ H x y v u Q I B J h L;obtain⟨p,xs,i,z,rfl,rfl,M,N,q⟩:=h;cases B;obtain⟨t,rfl⟩:=J;obtain⟨its,r,pl,hz⟩:=I.tuple M;obtain⟨j,h1,h2,Y,h4,h5⟩:=gZ N;obtain⟨w,O,n⟩:=r.get h2;have U:=r.length;have hn:=ZF;have fin:EP X pins σ Q w s:=⟨z,H,I,n,q⟩;exact subscriptTail_builtinR (x:=w) pl.typeIs slot_tuple_getitem.lookup
  (getItem_tuple (j:=j) (Q:=λr s'=>r=w/\EP X pins σ Q r s') pl Om Om (by rw[x1,<-U];exact h1) (by simpa using O) ⟨rfl,fin⟩) L
theorem fm(its:List Value)(n j:Nat)(u:Value):Obj.mapSeq (·.setIfInBounds j u) {cls:=.type "list",data:=.seq its.toArray n}={cls:=.type "list",data:=.seq (its.set j u).toArray n}:=by simp[Obj.mapSeq]
theorem Inv.lst(I:Inv X pins σ H s)(h:H p=some (.lst xs)):
  ∃(its:List Value)(n:Nat),Vals xs its/\s.heap.get? p=some {cls:=.type "list",data:=.seq its.toArray n}/\xs.length<=sizeLine:=by
 obtain⟨z,its,n,r,e⟩:=I.Cb p _ h;exact⟨its,n,r,e,z⟩
theorem Inv.qy{pins:List (Addr×Obj)}{σ:St}{H:Hp}{s:Shared}{p:Addr}{xs ys:List V}{its its':List Value}{n j:Nat}{f:Obj->Obj}(I:Inv X pins σ H s)(h:H p=some (.lst xs))
  (B:s.heap.get? p=some {cls:=.type "list",data:=.seq its.toArray n}) (z:f {cls:=.type "list",data:=.seq its.toArray n}={cls:=.type "list",data:=.seq its'.toArray j}) (r:Vals ys its') (hz:ys.length<=sizeLine) (t:Nat):
  Inv X pins σ (upd H p (.lst ys)) {s with heap:=s.heap.update p f,toks:=t}:=by
 have e:(s.heap.update p f).get? p=some {cls:=.type "list",data:=.seq its'.toArray j}:=by rw[yj f B (by rw[z]<;> rfl),z]
 refine I.write (x:=p) (e:=p) (by rw[h];trivial) (.inl rfl) (λb u J q=>(zO _ _ (x8 J)).trans q) ⟨_,e⟩ ?_;exact⟨hz,its',j,r,e⟩
def uB:V->V->V->Hp->(Hp->Prop)->Prop:=λo i v H Q=>∃p xs k j,o=.ref p/\i=.int k/\H p=some (.lst xs)/\f6 xs.length k=some j/\Q (upd H p (.lst (xs.set j v)))
theorem set_list:tI X uB:=by
 intro pins s σ H o i v ov iv u Q I ro Y rv h;obtain⟨p,xs,k,j,rfl,rfl,L,hj,q⟩:=h;cases ro;obtain⟨t,rfl⟩:=Y;obtain⟨its,n,r,z,hz⟩:=I.lst L;obtain⟨h1,h2,M,N⟩:=hH hj;have B:=r.length;have hn:=ZF;have O:Inv X pins σ (upd H p (.lst (xs.set j v))) {s with heap:=s.heap.update p (Obj.mapSeq (·.setIfInBounds j u))}:=
  I.qy L z (fm its n j u) (r.set rv j) (by rw[zZ];exact hz) s.toks
 by_cases U:0<=k
 .have J:k.toNat=j:=by
   rw[seqIndex_of U N]at h1;exact xn h1
  exact PySem.W.ki_setAt z U Om (by rw[x1,<-B];exact N) (by rw[J];exact⟨_,O,q⟩)
 .have J:(k+(its.toArray.size:Int)).toNat=j:=by
   rw[seqIndex_neg Om M]at h1;rw[x1,<-B];exact xn h1
  exact PySem.W.ki_setBack z Om (by rw[x1,<-B];exact M) Om (by rw[J];exact⟨_,O,q⟩)
theorem YM(lo hi:Option Int)(n:Nat):(sliceBounds lo hi none n).1=((HT.Yo n 0 lo:Nat):Int)/\(sliceBounds lo hi none n).2.1=((HT.Yo n n hi:Nat):Int)/\(sliceBounds lo hi none n).2.2=1:=by
 refine⟨?_,?_,rfl⟩
 .cases lo with
  |none=>simp[sliceBounds,HT.Yo]
  |some i=>
   simp only[sliceBounds,HT.Yo,Option.getD_none,show(1:Int) > 0 by decide,AA9];by_cases h:i<0
   .simp only[h,AA9]<;> lia
   .simp only[h,ABu]<;> lia
 .cases hi with
  |none=>simp[sliceBounds,HT.Yo]
  |some i=>
   simp only[sliceBounds,HT.Yo,Option.getD_none,show(1:Int) > 0 by decide,AA9];by_cases h:i<0
   .simp only[h,AA9]<;> lia
   .simp only[h,ABu]<;> lia
theorem Vq(its:List Value)(lo hi:Option Int):slicePick its.toArray lo hi none=((its.drop (HT.Yo its.length 0 lo)).take (HT.Yo its.length its.length hi - HT.Yo its.length 0 lo)).toArray:=by obtain⟨h1,h2,j⟩:=YM lo hi its.toArray.size;unfold slicePick;rw[h1,h2,j];simp only[sliceRange_one,pick_run,x1]<;> rfl
def vd(K:PySem.W.Frag):V->Option Int->Option Int->Hp->VK->Prop:=λx lo hi H Q=>∃a xs,x=.ref a/\Ah K H a xs/\∀p,H p=none->Q (.ref p) (upd H p (.lst (GP xs lo hi)))
theorem FO:wh X (vd X.K):=by intro pins s σ H x v M N lo hi O Q I z B pl J h;obtain⟨a,xs,rfl,L,q⟩:=h;cases z;obtain⟨its,r,n,hz⟩:=I.list L;have j:=r.length;refine⟨"list",_,slot_list_getitem.lookup,n.isList.typeIs,?_⟩;refine wpAny_getItem_list_slice n.isList B pl J .none (by simp) ?_ (by rw[x1]<;> lia);rw[Vq,<-j];refine⟨.ref s.heap.objs.size,_,I.laid (t':=s.toks) (o:=.lst (GP xs lo hi)) (λb U q=>xN _ q) (xZ _) ?_,rfl,q _ (I.Cb.fresh (xZ _))⟩;exact⟨xr (bE xs lo hi) hz,_,0,(r.drop (HT.Yo xs.length 0 lo)).take (HT.Yo xs.length xs.length hi - HT.Yo xs.length 0 lo),xf _ rfl⟩
noncomputable def Pe:V->Bool
 | .non=>true
 | .bl _=>true
 | .int _=>true
 | .str _=>true
 |_=>false
noncomputable def pz:V->V->Bool
 | .non,.non=>true
 | .bl a,.bl b=>a==b
 | .bl a,.int b=>(if a then 1 else 0)==b
 | .int a,.bl b=>a==(if b then 1 else 0)
 | .int a,.int b=>a==b
 | .str a,.str b=>a==b
 |_,_=>false
theorem sY(n:RelV y u)(j:RelV x v)(z:Pe y=true)(q:Pe x=true):SeqAt.EqAt A s u v (pz y x):=by
 cases y with
 |non=>
  cases n;cases x with
  |non=>cases j;exact SeqAt.EqAt.same _
  |bl b=>cases j;exact SeqAt.EqAt.none_bool b
  |int b=>obtain⟨t,rfl⟩:=j;exact SeqAt.EqAt.none_int b t
  |str b=>obtain⟨t,rfl⟩:=j;exact SeqAt.EqAt.none_str b t
  |_=>exact absurd (show false=true from q) xy
 |bl a=>
  cases n;cases x with
  |non=>cases j;exact SeqAt.EqAt.bool_none a
  |bl b=>cases j;exact SeqAt.EqAt.bool_bool a b
  |int b=>obtain⟨t,rfl⟩:=j;exact SeqAt.EqAt.bool_int a b t
  |str b=>obtain⟨t,rfl⟩:=j;exact SeqAt.EqAt.bool_str a b t
  |_=>exact absurd (show false=true from q) xy
 |int a=>
  obtain⟨t',rfl⟩:=n;cases x with
  |non=>cases j;exact SeqAt.EqAt.int_none a t'
  |bl b=>cases j;exact SeqAt.EqAt.int_bool a t' b
  |int b=>obtain⟨t,rfl⟩:=j;exact SeqAt.EqAt.int_int a t' b t
  |str b=>obtain⟨t,rfl⟩:=j;exact SeqAt.EqAt.int_str a t' b t
  |_=>exact absurd (show false=true from q) xy
 |str a=>
  obtain⟨t',rfl⟩:=n;cases x with
  |non=>cases j;exact SeqAt.EqAt.str_none a t'
  |bl b=>cases j;exact SeqAt.EqAt.str_bool a t' b
  |int b=>obtain⟨t,rfl⟩:=j;exact SeqAt.EqAt.str_int a t' b t
  |str b=>obtain⟨t,rfl⟩:=j;exact SeqAt.EqAt.str_str a t' b t
  |_=>exact absurd (show false=true from q) xy
 |_=>exact absurd (show false=true from z) xy
def d3(x:V)(u:Value):Bool:=match u with
 | .none=>pz .non x
 | .bool b=>pz (.bl b) x
 | .int i _=>pz (.int i) x
 | .str z _=>pz (.str z) x
 |_=>false
theorem me(r:RelV y u)(f:Pe y=true):d3 x u=pz y x:=by
 cases y with
 |non=>cases r;rfl
 |bl b=>cases r;rfl
 |int i=>obtain⟨t,rfl⟩:=r;rfl
 |str z=>obtain⟨t,rfl⟩:=r;rfl
 |_=>exact absurd (show false=true from f) xy
theorem TU(h:Vals xs us)(f:xs.all Pe=true):us.any (d3 x)=xs.any λy=>pz y x:=by
 induction h with
 |nil=>rfl
 |cons r t j=>rw[yn,x4]at f;rw[AAE,AAE,me r f.1,j f.2]
theorem Lb(n:RelV x v)(q:Pe x=true):∀{xs:List V}{us:List Value},Vals xs us->xs.all Pe=true->∀u∈us,SeqAt.EqAt A s u v (d3 x u)
 |_,_,.nil,_=>λu j=>by cases j
 |y::xs,u::us,.cons r t,f=>λz j=>by
  rw[yn,x4]at f;rcases xb.mp j with rfl|j
  .rw[me r f.1];exact sY r n f.1 q
  .exact Lb n q t f.2 z j
def rJ(x:V)(xs:List V):Bool:=xs.any λy=>pz y x
inductive sg(K:PySem.W.Frag)(neg:Bool)(x:V)(y:V)(H:Hp)(Q:VK):Prop
 |mk (p xs) (_:y=.ref p) (_:(Ah K H p xs\/Cd K H p xs)) (_:Pe x=true) (_:xs.all Pe=true) (_:Q (.bl (if neg then !rJ x xs else rJ x xs)) H)
theorem jd:Kx X (compareOp .In) (sg X.K false):=by
 intro pins s σ H x y v u Q I z J h;obtain⟨p,xs,rfl,j,B,fs,q⟩:=h;cases J;rcases j with j|j
 .obtain⟨its,r,pl,hz⟩:=I.list j;refine SeqAt.in_listAt (d3 x) pl.isList (λw n=>Lb z B r fs w (by simpa using n)) ⟨.bl _,H,I,rfl,?_⟩;rw[show its.toArray.any (d3 x)=its.any (d3 x) by simp,TU r fs];exact q
 .obtain⟨its,r,pl,hz⟩:=I.tuple j;refine SeqAt.in_tupleAt (d3 x) pl (λw n=>Lb z B r fs w (by simpa using n)) ⟨.bl _,H,I,rfl,?_⟩;rw[show its.toArray.any (d3 x)=its.any (d3 x) by simp,TU r fs];exact q
theorem J3:Kx X (compareOp .NotIn) (sg X.K true):=by
 intro pins s σ H x y v u Q I z J h;obtain⟨p,xs,rfl,j,B,fs,q⟩:=h;cases J;rcases j with j|j
 .obtain⟨its,r,pl,hz⟩:=I.list j;refine SeqAt.notIn_listAt (d3 x) pl.isList (λw n=>Lb z B r fs w (by simpa using n)) ⟨.bl _,H,I,rfl,?_⟩;rw[show its.toArray.any (d3 x)=its.any (d3 x) by simp,TU r fs];exact q
 .obtain⟨its,r,pl,hz⟩:=I.tuple j;refine SeqAt.notIn_tupleAt (d3 x) pl (λw n=>Lb z B r fs w (by simpa using n)) ⟨.bl _,H,I,rfl,?_⟩;rw[show its.toArray.any (d3 x)=its.any (d3 x) by simp,TU r fs];exact q
theorem YG:Ot X (.builtin "len") (λxs H Q=>∃p ys,xs=[.ref p]/\(Ah X.K H p ys\/Cd X.K H p ys)/\Q (.int ys.length) H):=by
 intro pins s σ H xs us Q I r h;obtain⟨p,ys,rfl,n,q⟩:=h;obtain⟨u,rfl,B⟩:=vals1 r;cases B;have J:=ZF;rcases n with n|n
 .obtain⟨its,z,pl,hz⟩:=I.list n;have j:=z.length;exact Calls.call_len_list pl.isList (by simp only[x1]<;> lia) ⟨.int ys.length,H,I.tok _,⟨s.toks+1,by rw[x1,j]⟩,q⟩
 .obtain⟨its,z,pl,hz⟩:=I.tuple n;have j:=z.length;exact len_tuple pl (by simp only[x1]<;> lia) ⟨.int ys.length,H,I.tok _,⟨s.toks+1,by rw[x1,j]⟩,q⟩
theorem Yz:Ot X (.type "list") (λxs H Q=>∃p ys,xs=[.ref p]/\(Ah X.K H p ys\/Cd X.K H p ys)/\∀l,H l=none->Q (.ref l) (upd H l (.lst ys))):=by
 intro pins s σ H xs us Q I r h;obtain⟨p,ys,rfl,B,q⟩:=h;obtain⟨u,rfl,O⟩:=vals1 r;cases O;have fin:∀(its:List Value),Vals ys its->ys.length<=sizeLine->∀(h':Heap)(j:Nat),(∀b o',s.heap.get? b=some o'->h'.get? b=some o')->
   h'.get? s.heap.objs.size=some {cls:=.type "list",dict:=none,data:=.seq its.toArray j,slots:= #[]}->EP X pins σ Q (.ref s.heap.objs.size) {s with heap:=h'}:=λits z hz h' j J e=>
  ⟨.ref s.heap.objs.size,_,I.laid (t':=s.toks) J (xZ _) (show CC X.prog X.w _ h' _ (.lst ys)from⟨hz,its,j,z,e⟩),rfl,q _ (I.Cb.fresh (xZ _))⟩
 rcases B with B|B
 .obtain⟨its,z,pl,hz⟩:=I.list B;have L:=z.length;obtain⟨o,M,N,n,hd⟩:=pl.isList;exact call_list_seq p (.inl rfl) M N hd (λh' j J e=>fin its z hz h' j J e) (by simp only[x1]<;> lia)
 .obtain⟨its,z,pl,hz⟩:=I.tuple B;have L:=z.length;obtain⟨o,M,N,n,hd⟩:=pl;exact call_list_seq p (.inr rfl) M N hd (λh' j J e=>fin its z hz h' j J e) (by simp only[x1]<;> lia)
def wQ(K:PySem.W.Frag)(T:String)(x:V)(H:Hp):Prop:=match x with
 | .str _=>T="str"
 | .int _=>T="int"
 | .ref p=>(T="list"/\∃xs,Ah K H p xs)\/(T="tuple"/\∃o,K.lookup p=some o/\o.cls=.type "tuple"/\o.dict=none)\/
   (T="dict"/\((∃kvs,H p=some (.dK kvs))\/∃kvs,H p=some (.dT kvs)))\/(T="set"/\∃S n,H p=some (.set S n))
 |_=>False
theorem kP(I:Inv X pins σ H s)(r:RelV x v)(ty:wQ X.K T x H):
  s.TypeIs v T/\∀a,v=.ref a->∃B,s.heap.get? a=some B/\B.dict=none:=by
 cases x with
 |str z=>obtain⟨t,rfl⟩:=r;cases(show T="str" from ty);exact⟨typeIs_str s z t,λ_ e=>nomatch e⟩
 |int i=>obtain⟨t,rfl⟩:=r;cases(show T="int" from ty);exact⟨typeIs_int s i t,λ_ e=>nomatch e⟩
 |ref p=>
  cases r;rcases ty with⟨rfl,xs,J⟩|⟨rfl,o,j,L,hd⟩|⟨rfl,j⟩|⟨rfl,S,n,j⟩
  .obtain⟨its,_,pl,_⟩:=I.list J;refine⟨pl.isList.typeIs,λa e=>?_⟩;cases e;obtain⟨o,n,e,c,hd,_⟩:=pl;exact⟨o,e,hd⟩
  .refine⟨⟨o,I.WL p o j,L⟩,λa e=>?_⟩;cases e;exact⟨o,I.WL _ o j,hd⟩
  .have z:∃o,s.heap.get? p=some o/\o.ExactDict:=by
    rcases j with⟨kvs,j⟩|⟨kvs,j⟩
    .obtain⟨_,_,_,_,o,_,_,e,ex,_⟩:=I.Cb p _ j;exact⟨o,e,ex⟩
    .obtain⟨_,_,_,_,o,_,_,e,ex,_⟩:=I.Cb p _ j;exact⟨o,e,ex⟩
   obtain⟨o,e,ex⟩:=z;refine⟨⟨o,e,ex.1⟩,λa q=>?_⟩;cases q;exact⟨o,e,ex.2.1⟩
  .obtain⟨o,_,_,_,e,ex,_⟩:=I.Cb p _ j;refine⟨⟨o,e,ex.1⟩,λa q=>?_⟩;cases q;exact⟨o,e,ex.2.1⟩
 |_=>exact False.elim ty
def wM(K:PySem.W.Frag)(T:String)(r:V->List V->Hp->VK->Prop)(to:TE):TE:=λσ H Q=>to σ H λx H1=>wQ K T x H1/\r x [] H1 Q
def xA(K:PySem.W.Frag)(T:String)(r:V->List V->Hp->VK->Prop)(to:TE)(t:TA):TE:=λσ H Q=>to σ H λx H1=>wQ K T x H1/\t σ H1 λxs H2=>r x xs H2 Q
variable{o e:Expr}{es:List Expr}{to:TE}{t:TA}{name:Str}{apos cpos:Pos}{T id:String}{r:V->List V->Hp->VK->Prop}
theorem OY(J:PlainAttrs T)(slot:Slot T name id)(q:typeOf (.builtin id)=pure (.type "method_descriptor"))(L:we X id r)(M:PE X o to)
  (j:attributeBase o name X.env (eval o X.env)=eval o X.env:=by rfl) (n:(apos.endLine==cpos.line)=true:=by rfl):PE X (.Call (.Attribute o name apos) [] [] cpos) (wM X.K T r to):=by
 intro pins s σ H Q I h;refine wpAny_Call_method0_late j n (Bw (M pins s σ H _ I h) λv N⟨x,H1,z,B,ty,O⟩=>?_);obtain⟨h1,h2⟩:=kP z B ty;exact⟨T,id,J,slot,q,h1,h2,AAM rfl (ABP (L pins N σ H1 x [] v [] Q z B .nil O))⟩
theorem Cn(N:PlainAttrs T)(slot:Slot T name id)(B:typeOf (.builtin id)=pure (.type "method_descriptor"))(O:we X id r)(U:PE X o to)(Y:PA X (e::es) t)
  (n:attributeBase o name X.env (eval o X.env)=eval o X.env:=by rfl)
  (z:((backTo cpos (starEach (e::es) X.env)).all (λx=> !x.1) && (backToKw cpos (keywordEach [] X.env)).all (λx=>x.1.isSome)
   && decide ((e::es).length+([]:List Keyword).length+(if([]:List Keyword).isEmpty then 0 else 1)<30))=true:=by rfl)
  (q:(apos.endLine==cpos.line)=true:=by rfl) (hs:starEach (e::es) X.env=(false,eval e X.env)::starEach es X.env:=by rfl) (j:(backTo cpos (starEach es X.env)).any (·.1)=false:=by rfl):
  PE X (.Call (.Attribute o name apos) (e::es) [] cpos) (xA X.K T r to t):=by
 intro pins s σ H Q I h;refine wpAny_Call_method_late n z q rfl (Bw (U pins s σ H _ I h) λv s1⟨x,H1,J,L,ty,q1⟩=>?_);obtain⟨h1,h2⟩:=kP J L ty;refine⟨T,id,N,slot,B,h1,h2,?_⟩;have M:=Y cpos pins s1 σ H1 _ J q1;rw[hs]at M⊢;refine AAM (by show(false||(backTo cpos (starEach es X.env)).any (·.1))=false;rw[j]<;> rfl) (ABD ?_);exact Bw M λus s2⟨vs,H2,I2,r2,q2⟩=>O pins s2 σ H2 x vs v us Q I2 L r2 q2
end
def vF(X:Cx)(id:String)(r:V->List V->Hp->VK->Prop):Prop:=
 ∀(pins:List (Addr×Obj))(s:Shared)(σ:St)(H:Hp)(x:V)(xs:List V)(v:Value)(us:List Value)(Q:VK),Inv X pins σ H s->RelV x v->Vals xs us->r x xs H Q->
  wpAny (model X.prog X.w) X.A (call (.builtin id) (v::us)) (EP X pins σ Q) X.xe s
theorem Vals.one{x:V}{us:List Value}(h:Vals [x] us):∃u,us=[u]/\RelV x u:=by
 cases h with
 |cons r t=>cases t;exact⟨_,rfl,r⟩
theorem Vals.zero:∀{us:List Value},Vals [] us->us=[]
 |_,.nil=>rfl
theorem Vals.dropLast(h:Vals xs us):Vals xs.dropLast us.dropLast:=by
 induction h with
 |nil=>exact .nil
 |cons r t j=>
  cases t with
  |nil=>exact .nil
  |cons q t'=>exact .cons r j
theorem fg(l:List n):l.eraseIdx (l.length - 1)=l.dropLast:=by
 induction l with
 |nil=>rfl
 |cons a r j=>
  cases r with
  |nil=>rfl
  |cons b r=>
   have e:(a::b::r).length - 1=((b::r).length - 1)+1:=by have h1:(a::b::r).length=r.length+2:=rfl;have h2:(b::r).length=r.length+1:=rfl;lia
   rw[e,List.eraseIdx_cons_succ,j]
   all_goals rfl
section
variable{X:Cx}{pins:List (Addr×Obj)}{σ:St}{H:Hp}{s:Shared}{l b:Addr}{xs ys zs:List V}
theorem Inv.q0{its its':List Value}{n:Nat}{f:Array Value->Array Value}{t':Nat}(I:Inv X pins σ H s)(j:H l=some (.lst xs))
  (e:s.heap.get? l=some {cls:=.type "list",data:=.seq its.toArray n}) (z:f its.toArray=its'.toArray) (B:Vals ys its') (hz:ys.length<=sizeLine):
  Inv X pins σ (upd H l (.lst ys)) {s with heap:=s.heap.update l (Obj.mapSeq f),toks:=t'}:=by
 have q:=PySem.IsL.update e f;rw[z]at q;refine I.write (x:=l) (e:=l) (by rw[j];exact trivial) (.inl rfl) (λM u J L=>(zO s.heap (Obj.mapSeq f) (x8 J)).trans L) ⟨_,q⟩ ?_;exact⟨hz,its',_,B,q⟩
theorem Inv.vL(I:Inv X pins σ H s)(j:Vals ys its)(hz:ys.length<=sizeLine):
  Inv X pins σ (upd H s.heap.objs.size (.lst ys)) {s with heap:=s.heap.push {cls:=.type "list",data:=.seq its.toArray},toks:=t'}:=
 I.laid (λ_ _ q=>xN _ q) (xZ _) ⟨hz,its,0,j,xf _ rfl⟩
theorem Inv.fresh(I:Inv X pins σ H s):H s.heap.objs.size=none:=I.Cb.fresh (xZ _)
theorem Inv.jF(I:Inv X pins σ H s)(j:H l=some (.lst xs)):xs.length<=sizeLine/\∃(its:List Value)(n:Nat),Vals xs its/\xs.length=its.length/\s.heap.get? l=some {cls:=.type "list",data:=.seq its.toArray n}:=by obtain⟨z,its,n,r,e⟩:=I.Cb l _ j;exact⟨z,its,n,r,r.length,e⟩
theorem my(h:n<=sizeLine):Builtin.List.listTooLong n=false:=by unfold Builtin.List.listTooLong;exact xV Om
end
section
variable{X:Cx}
def oK:V->List V->Hp->VK->Prop:=λx vs H Q=>∃l xs y,x=.ref l/\vs=[y]/\H l=some (.lst xs)/\xs.length<sizeLine/\Q .non (upd H l (.lst (xs++[y])))
theorem BD:vF X "list.append" oK:=by intro pins s σ H x vs v us Q I B J h;obtain⟨l,xs,y,rfl,rfl,j,hz,q⟩:=h;cases B;obtain⟨u,rfl,L⟩:=J.one;obtain⟨z,its,n,r,M,e⟩:=I.jF j;refine call_meets F.slot_list_append ⟨_,e,rfl⟩ F.entry_list_append (F.args_list_append_2 _ _) (PySem.list_append l its.toArray n u (by rw[x1];lia)) ⟨e,?_⟩;refine⟨.non,_,I.q0 (its':=its++[u]) j e (by simp) (r.append (.cons L .nil)) ?_,rfl,q⟩;rw[xS,zW];lia
def nu:V->List V->Hp->VK->Prop:=λx vs H Q=>∃l b xs zs,x=.ref l/\vs=[.ref b]/\H l=some (.lst xs)/\H b=some (.lst zs)/\xs.length+zs.length<=sizeLine/\Q .non (upd H l (.lst (xs++zs)))
theorem FA:vF X "list.extend" nu:=by
 intro pins s σ H x vs v us Q I L M h;obtain⟨l,b,xs,zs,rfl,rfl,J,N,hz,q⟩:=h;cases L;obtain⟨u,rfl,O⟩:=M.one;cases O;obtain⟨z,its,n,r,hl,e⟩:=I.jF J;obtain⟨z2,j,U,Y,aa,e2⟩:=I.jF N;have hsz:its.toArray.size+j.toArray.size<=sizeLine:=by rw[x1,x1];lia
 have B:¬(!its.toArray.isEmpty && Builtin.List.listTooLong (its.toArray.size+j.toArray.size))=true:=by rw[my hsz,Bool.and_false];exact xy
 refine call_meets F.slot_list_extend ⟨_,e,rfl⟩ F.entry_list_extend (F.args_list_extend_2 _ _)
  (AutoSeq1.list_extend_list_list_0 l its.toArray n b j.toArray U B (by rw[x1];lia) Om) ⟨e,e2,?_⟩
 refine⟨.non,_,I.q0 (its':=its++j) J e (by simp) (r.append Y) ?_,rfl,q⟩;rw[xS];lia
def vH:V->List V->Hp->VK->Prop:=λx vs H Q=>∃l xs y,x=.ref l/\vs=[]/\H l=some (.lst xs)/\xs[xs.length - 1]?=some y/\Q y (upd H l (.lst xs.dropLast))
theorem Oh:vF X "list.pop" vH:=by
 intro pins s σ H x vs v us Q I L M h;obtain⟨l,xs,y,rfl,rfl,J,N,q⟩:=h;cases L;have j:=M.zero;subst j;obtain⟨z,its,n,r,O,e⟩:=I.jF J;obtain⟨u,U,Y⟩:=r.get N;have B:its.toArray[its.toArray.size - 1]?=some u:=by show its.toArray[its.length - 1]?=some u;rw[<-zC,<-O];exact U
 refine call_meets F.slot_list_pop ⟨_,e,rfl⟩ F.entry_list_pop (F.args_list_pop_1 _) (MeetsSeq.list_pop_last l its.toArray n u B (by rw[x1];lia)) ⟨e,?_⟩;refine⟨y,_,I.q0 (its':=its.dropLast) J e ?_ r.dropLast ?_,Y,q⟩
 .show its.toArray.eraseIdxIfInBounds (its.toArray.size - 1)=its.dropLast.toArray;rw[x1,List.eraseIdxIfInBounds_toArray,fg]
 .rw[List.length_dropLast];lia
inductive vt(x:V)(y:V)(H:Hp)(Q:VK):Prop
 |mk (l b xs zs) (_:x=.ref l) (_:y=.ref b) (_:H l=some (.lst xs)) (_:H b=some (.lst zs)) (_:xs.length+zs.length<=sizeLine) (_:∀p,H p=none->Q (.ref p) (upd H p (.lst (xs++zs))))
theorem DF:Kx X (binaryOp .Add) vt:=by
 intro pins s σ H x y v u Q I B J h;obtain⟨l,b,xs,zs,rfl,rfl,L,M,hz,q⟩:=h;cases B;cases J;obtain⟨z,its,n,r,hl,e⟩:=I.jF L;obtain⟨z2,j,n2,N,O,U⟩:=I.jF M;refine PySem.P.add_list e U ?_ (by rw[x1,x1];lia);have Y:its.toArray++j.toArray=(its++j).toArray:=by simp
 rw[Y];exact⟨.ref _,_,I.vL (t':=s.toks) (r.append N) (by rw[xS];lia),rfl,q _ I.fresh⟩
end
theorem Vals.ints:∀{ns:List Int}{us:List Value},Vals (ns.map V.int) us->IntsAre us ns
 |[],us,h=>by rw[ABv]at h;cases h;exact IntsAre.nil
 |n::ns,us,h=>by
  rw[yE]at h;cases h with
  |cons r t=>obtain⟨k,rfl⟩:=r;exact IntsAre.cons n k (Vals.ints t)
theorem YN{us:List Value}{ns:List Int}(h:IntsAre us ns):Vals (ns.map V.int) us:=by
 induction h with
 |nil=>exact .nil
 |cons n t h j=>exact Paired.cons (show RelV (V.int n) (Value.int n t)from⟨t,rfl⟩) j
theorem Vals.wc:∀{bs:List Bool}{us:List Value},Vals (bs.map V.bl) us->us=bs.map Value.bool
 |[],us,h=>by rw[ABv]at h;cases h;rfl
 |b::bs,us,h=>by
  rw[yE]at h;cases h with
  |cons r t=>cases r;rw[Vals.wc t,yE]
theorem Vals.eX(r:Vals [V.ref a] us):us=[Value.ref a]:=by
 cases r with
 |cons r t=>cases t;cases r;rfl
section
variable{prog:Program}{w:World}{A:Around}{E:Value->Shared->Prop}{s:Shared}{l:Addr}{its:List Value}{ns:List Int}{Q:Value->Shared->Prop}
theorem o8(q:A.handled=none)(j:s.heap.IsList l its.toArray)(hi:IntsAre its ns)
  (h:∀h' tk t',(∀b o,s.heap.get? b=some o->h'.get? b=some o)->Q (.int ns.sum t') {s with heap:=h',toks:=tk}):wpAny (model prog w) A (call (.builtin "sum") [.ref l]) Q E s:=by
 obtain⟨xs,e⟩:=hi.allInts.items;have n:numsOf (intItems xs).toList=ns:=by rw[<-e];exact hi.numsOf
 rw[nums_intItems]at n;rw[e]at j;refine PySem.sum_intListG q j λh' tk t' z=>?_;have:=h h' tk t' z;rw[preSum_eq,yT (by simp),n];exact this
end
section
variable{X:Cx}
def wH(K:PySem.W.Frag):List V->Hp->VK->Prop:=λvs H Q=>∃(a:Addr)(ns:List Int),vs=[V.ref a]/\Ah K H a (ns.map V.int)/\Q (.int ns.sum) H
theorem l0(j:X.calm=true):Ot X (.builtin "sum") (wH X.K):=by intro pins s σ H vs us Q I r h;obtain⟨a,ns,rfl,n,q⟩:=h;obtain⟨its,z,B,_⟩:=I.list n;rw[Vals.eX r];exact o8 (I.ok.hd j) B.isList z.ints λh' tk t' J=>⟨.int _,H,I.kept J,⟨_,rfl⟩,q⟩
theorem nV(h:n<64):n<=sizeLine:=by rw[AAL];lia
end
theorem mH(n:s.heap.IsList l items)
  (h:∀j:Shared,j={s with heap:=s.heap.push {cls:=.type "list_iterator",data:=.fields #[.ref l,.int 0 0]}}->
   (j.heap.IsListIter s.heap.objs.size l 0/\j.heap.IsList l items)->l≠s.heap.objs.size->Q (.ref s.heap.objs.size) j):wpAny (model prog w) A (pyIter (.ref l)) Q E s:=by
 have q:l<s.heap.objs.size:=by obtain⟨_,e,_⟩:=n;exact xj e
 exact AAp n (h _ rfl ⟨⟨_,xf _ rfl,rfl,rfl⟩,n.push _⟩ (x6 q))
theorem c9{prog:Program}{w:World}{A:Around}{bs:List Bool}{its:List Value}(e:its=bs.map Value.bool):
  TruthOf prog w A (λi v=>its.toArray[i]?=some v) (λi=>bs.getD i false):=λi v s Q E q z=>by
 have j:its[i]?=some v:=by simpa using q
 rw[e,xh]at j;obtain⟨b,B,rfl⟩:=xu.mp j;have I:bs.getD i false=b:=by rw[zu,B]<;> rfl
 have n:Q (bs.getD i false) s:=z;rw[I]at n;exact zA n
theorem any_range:∀bs:List Bool,(List.range bs.length).any (λi=>bs.getD i false)=bs.any id
 |[]=>rfl
 |b::bs=>by
  rw[xg,List.range_succ_eq_map,AAE,List.any_map,AAE,<-any_range bs]
  all_goals rfl
theorem all_range:∀bs:List Bool,(List.range bs.length).all (λi=>bs.getD i false)=bs.all id
 |[]=>rfl
 |b::bs=>by
  rw[xg,List.range_succ_eq_map,yn,ABE,yn,<-all_range bs]
  all_goals rfl
section
variable{X:Cx}
def vX(K:PySem.W.Frag):List V->Hp->VK->Prop:=λvs H Q=>∃(a:Addr)(bs:List Bool),vs=[V.ref a]/\Ah K H a (bs.map V.bl)/\Q (.bl (bs.all id)) H
theorem mi(L:X.calm=true):Ot X (.builtin "all") (vX X.K):=by
 intro pins s σ H vs us Q I r h;obtain⟨a,bs,rfl,M,q⟩:=h;obtain⟨its,N,O,_⟩:=I.list M;rw[Vals.eX r];have z:=N.wc;refine call_all_walk (mH O.isList λB U st n=>?_);subst U;refine⟨_,_,_,_,_,_,_,rfl,Walks.list (A:=X.A.in1) (I.ok.hd L) _ a n its.toArray,st,c9 z,λh' tk Y=>?_⟩;refine⟨.bl _,H,I.kept λb o J=>Y b o (λj=>?_) (xN _ J),?_,q⟩
 .rcases xb.mp j with e1|j
  .exact absurd (e1▸xj J) (y8 _)
  .cases j
 .show Value.bool _=Value.bool _;rw[<-all_range,z,x1,xH]
end
mutual
inductive Dp(K:PySem.W.Frag)(H:Hp):V->PyData->Prop
 |non:Dp K H .non .none
 |bl (b:Bool):Dp K H (.bl b) (.bool b)
 |int (i:Int):Dp K H (.int i) (.int i)
 |str (x:Str):Dp K H (.str x) (.str x)
 |lst {a:Addr} {xs:List V} {ds:List PyData}:Ah K H a xs->Xe K H xs ds->Dp K H (.ref a) (.list ds)
 |tup {a:Addr} {xs:List V} {ds:List PyData}:Cd K H a xs->Xe K H xs ds->Dp K H (.ref a) (.tuple ds)
inductive Xe(K:PySem.W.Frag)(H:Hp):List V->List PyData->Prop
 |nil:Xe K H [] []
 |cons {v:V} {vs:List V} {d:PyData} {ds:List PyData}:Dp K H v d->Xe K H vs ds->Xe K H (v::vs) (d::ds)
end
section
variable{X:Cx}{pins:List (Addr×Obj)}{σ:St}{H:Hp}{s:Shared}
mutual
theorem Dp.reads(I:Inv X pins σ H s):∀(d:PyData)(v:V)(u:Value),Dp X.K H v d->RelV v u->∃as,Reads s.heap u d as
 | .none,_,_,h,r=>by cases h;cases r;exact⟨_,Reads.none⟩
 | .bool b,_,_,h,r=>by cases h;cases r;exact⟨_,Reads.bool b⟩
 | .int i,_,_,h,r=>by cases h;obtain⟨t,rfl⟩:=r;exact⟨_,Reads.int i t⟩
 | .str x,_,_,h,r=>by cases h;obtain⟨t,rfl⟩:=r;exact⟨_,Reads.str x t⟩
 | .list ds,_,_,h,r=>by
  cases h with
  |lst j q=>cases r;obtain⟨its,z,⟨o,n,B,J,_,hd⟩,_⟩:=I.list j;obtain⟨as,L⟩:=Dp.readsAll I ds _ its q z;exact⟨_,Reads.list B J hd L⟩
 | .tuple ds,_,_,h,r=>by
  cases h with
  |tup j q=>cases r;obtain⟨its,z,⟨o,B,J,n,hd⟩,_⟩:=I.tuple j;obtain⟨as,L⟩:=Dp.readsAll I ds _ its q z;exact⟨_,Reads.tuple B J hd L⟩
 | .dict _,_,_,h,_=>by cases h
theorem Dp.readsAll(I:Inv X pins σ H s):∀(ds:List PyData)(vs:List V)(us:List Value),Xe X.K H vs ds->Vals vs us->∃as,ReadsAll s.heap us ds as
 |[],_,_,h,r=>by cases h;cases r;exact⟨_,ReadsAll.nil⟩
 |d::ds,_,_,h,r=>by
  cases h with
  |cons h1 h2=>
   cases r with
   |cons j n=>obtain⟨as,q⟩:=Dp.reads I d _ _ h1 j;obtain⟨bs,z⟩:=Dp.readsAll I ds _ _ h2 n;exact⟨_,ReadsAll.cons q z⟩
end
end
section
variable{X:Cx}
inductive vG(K:PySem.W.Frag)(x:V)(y:V)(H:Hp)(Q:VK):Prop
 |mk (d e) (_:Dp K H x d) (_:Dp K H y e) (_:SeqAt.shaped d=true) (_:SeqAt.shaped e=true) (_:Q (.bl (PyData.eqv d e)) H)
theorem qN(j:X.A.units+64<cLine):Kx X (compareOp .Eq) (vG X.K):=by intro pins s σ H x y v u Q I n z h;obtain⟨d,e,hd,B,J,L,q⟩:=h;obtain⟨as,M⟩:=Dp.reads I d x v hd n;obtain⟨bs,N⟩:=Dp.reads I e y u B z;exact SeqAt.compareEq_shaped M N J L j ⟨.bl _,H,I,rfl,q⟩
end
abbrev mS(h:Heap)(c:Addr)(v:Option Value):Prop:=h.IsCell c v
noncomputable def vS(j q:Scope):Scope:=
 {j with names:=j.names.map λ(n,k)=>if(k==.free && q.kind==.function && q.names.lookup n==some .cell)then(n,.cell)else(n,k)}
noncomputable def B0(cells:List (Str×Addr)):List (Str×NameKind)->List (Str×Addr)->List (Str×Addr)
 |[],acc=>acc
 |(n,k)::r,acc=>if k==.free then B0 cells r ((n,(cells.lookup n).getD 0)::acc)else B0 cells r acc
theorem QK(j:Env)(f:Str×NameKind->List (Str×Addr)->Sem (ForInStep (List (Str×Addr))))
  (z:∀n k c,f (n,k) c=if k==.free then(do let a<-cellOf j n;pure (.yield ((n,a)::c)))else pure (.yield c)):
  ∀(names:List (Str×NameKind))(acc:List (Str×Addr)),(∀y∈names,y.2=.free->∃c,j.cells.lookup y.1=some c)->forIn names acc f=pure (B0 j.cells names acc)
 |[],acc,_=>by rw[ABR];rfl
 |(n,k)::r,acc,h=>by
  rw[AB7,z];have B:=λacc=>QK j f z r acc λy J=>h y (xY _ J);unfold B0;by_cases q:(k==NameKind.free)=true
  .rw[xQ q,xQ q];obtain⟨c,I⟩:=h (n,k) xl (by simpa using q);have e:cellOf j n=pure c:=by unfold cellOf;rw[I]
   rw[e];have L:(j.cells.lookup n).getD 0=c:=by rw[I];rfl
   rw[L];exact B _
  .rw[xJ q,xJ q];exact B _
theorem eY(h:∀y∈j.names,y.2=.free->∃c,q.cells.lookup y.1=some c):closureFor j q=pure (B0 q.cells j.names []):=by simp only[closureFor];rw[QK q _ (λn k c=>rfl) j.names [] h];rfl
theorem mem_lookup:∀{l:List (Str×j)}{n:Str}{c:j},(n,c)∈l->∃q,l.lookup n=some q
 |(k,v)::r,n,c,h=>by
  rw[zR];cases z:n==k with
  |true=>exact⟨_,rfl⟩
  |false=>
   rcases xb.mp h with e|h
   .cases e;simp at z
   .exact mem_lookup h
theorem HS:∀{names:List (Str×NameKind)}{acc:List (Str×Addr)}{n:Str}{c:Addr},(n,c)∈B0 cells names acc->(n,c)∈acc\/((n,.free)∈names/\c=(cells.lookup n).getD 0)
 |[],_,_,_,h=>.inl h
 |(m,k)::r,acc,n,c,h=>by
  unfold B0 at h;split at h
  .rename_i j;have j:k=.free:=by simpa using j
   rcases HS h with h|⟨h1,h2⟩
   .rcases xb.mp h with e|h
    .cases e;exact .inr ⟨j▸xl,rfl⟩
    .exact .inl h
   .exact .inr ⟨xY _ h1,h2⟩
  .rcases HS h with h|⟨h1,h2⟩
   .exact .inl h
   .exact .inr ⟨xY _ h1,h2⟩
theorem LO:∀{names:List (Str×NameKind)}{acc:List (Str×Addr)}{p:Str×Addr},p∈acc->p∈B0 cells names acc
 |[],_,_,h=>h
 |(m,k)::r,acc,p,h=>by
  unfold B0;split
  .exact LO (xY _ h)
  .exact LO h
theorem K6:∀{names:List (Str×NameKind)}{acc:List (Str×Addr)}{n:Str},(n,.free)∈names->(n,(cells.lookup n).getD 0)∈B0 cells names acc
 |(m,k)::r,acc,n,h=>by
  unfold B0;rcases xb.mp h with e|h
  .cases e;exact LO xl
  .split
   .exact K6 h
   .exact K6 h
theorem Ib:∀{names:List (Str×NameKind)}{h:Heap}{acc:List (Str×Addr)}{x:Str}{c:Addr},(x,c)∈cellsFrom h.objs.size names acc->
  (x,c)∈acc\/((x,.cell)∈names/\h.objs.size<=c/\mS (pushCells h names) c none)
 |[],_,_,_,_,h=>.inl h
 |(n,k)::r,h,acc,x,c,j=>by
  unfold cellsFrom at j;unfold pushCells;split at j
  .rename_i q;rw[xQ q];have q:k=.cell:=by simpa using q
   rw[<-x9 h {cls:=.type "cell",data:=.cell none}]at j;rcases Ib j with j|⟨h1,h2,z⟩
   .rcases xb.mp j with e|j
    .cases e;exact .inr ⟨q▸xl,xZ _,_,ABF r _ _ _ (xf _ rfl),rfl⟩
    .exact .inl j
   .rw[x9]at h2;exact .inr ⟨xY _ h1,AAq h2,z⟩
  .rename_i q;rw[xJ q];rcases Ib j with j|⟨h1,h2,z⟩
   .exact .inl j
   .exact .inr ⟨xY _ h1,h2,z⟩
theorem MZ:∀{names:List (Str×NameKind)}{n:Nat}{acc:List (Str×Addr)}{p:Str×Addr},p∈acc->p∈cellsFrom n names acc
 |[],_,_,_,h=>h
 |(m,k)::r,n,acc,p,h=>by
  unfold cellsFrom;split
  .exact MZ (xY _ h)
  .exact MZ h
theorem Q6:∀{names:List (Str×NameKind)}{n:Nat}{acc:List (Str×Addr)}{x:Str},(x,.cell)∈names->∃c,(x,c)∈cellsFrom n names acc
 |(m,k)::r,n,acc,x,h=>by
  unfold cellsFrom;rcases xb.mp h with e|h
  .cases e;exact⟨n,MZ xl⟩
  .split
   .exact Q6 h
   .exact Q6 h
theorem Qx:∀{names:List (Str×NameKind)}{h:Heap}{acc:List (Str×Addr)}{x y:Str}{c:Addr},(∀p∈acc,p.2<h.objs.size)->(∀x y c,(x,c)∈acc->(y,c)∈acc->x=y)->
  (x,c)∈cellsFrom h.objs.size names acc->(y,c)∈cellsFrom h.objs.size names acc->x=y
 |[],_,_,_,_,_,_,hi,h1,h2=>hi _ _ _ h1 h2
 |(n,k)::r,h,acc,x,y,c,j,hi,h1,h2=>by
  unfold cellsFrom at h1 h2;split at h1
  .rename_i q;rw[xQ q]at h2;rw[<-x9 h {cls:=.type "cell",data:=.cell none}]at h1 h2;refine Qx (h:=h.push _) (λp z=>?_) (λx y c a b=>?_) h1 h2
   .rw[x9];rcases xb.mp z with rfl|z
    .exact z3 _
    .exact yW (j p z)
   .rcases xb.mp a with e|a<;> rcases xb.mp b with B|b
    .cases e;cases B;rfl
    .cases e;exact absurd (j _ b) (y8 _)
    .cases B;exact absurd (j _ a) (y8 _)
    .exact hi _ _ _ a b
  .rename_i q;rw[xJ q]at h2;exact Qx j hi h1 h2
theorem bL{M:Model}{A:Around}{E:Value->Shared->Prop}{s:Shared}{j:Scope}{globals:Addr}{q:List (Str×Addr)}{qual:Str}{func:Option Addr}{code:Value}{B:Env}{z:Addr}{Q:Env->Shared->Prop}
  (h:Q (newEnv j s.heap.objs.size globals (cellsFrom (s.heap.objs.size+1) j.names q) qual func code (some B) z)
   {s with heap:=pushCells (s.heap.push {cls:=.type "dict",data:=.dict #[]}) j.names}):
  wpAny M A (newFunctionEnv j globals q [] qual func code (some B) z) Q E s:=by
 simp only[newFunctionEnv,Option.isSome_some,AA9];refine xG (wpAny_alloc ?_);refine xG (wpAny_layCells _ (λn k c=>rfl) j.names q _ _ ?_);rw[show({s with heap:=s.heap.push {cls:=.type "dict",data:=.dict #[]}}:Shared).heap.objs.size=s.heap.objs.size+1 from x9 ..];rw[ABR];exact xG (xU (xU h))
theorem LY{q:Scope}:∀{names:List (Str×NameKind)}{x:Str}{k:NameKind},
  (names.map λ(n,k)=>if(k==NameKind.free && q.kind==.function && q.names.lookup n==some .cell)then(n,NameKind.cell)else(n,k)).lookup x=some k->
  ∃I,names.lookup x=some I/\(k=I\/(I=.free/\k=.cell))
 |[],_,_,h=>by simp at h
 |(n,j)::r,x,k,h=>by
  have J:= @LY q r x k;have h':List.lookup x ((if(j==NameKind.free && q.kind==.function && q.names.lookup n==some .cell)=true then(n,NameKind.cell)else(n,j))::(r.map _))=some k:=h;cases B:x==n with
  |true=>
   simp only[zR,B];by_cases z:(j==NameKind.free && q.kind==.function && q.names.lookup n==some .cell)=true
   .rw[xQ z]at h';simp only[zR,B]at h';cases h';simp only[x4,zv]at z;exact⟨j,rfl,.inr ⟨z.1.1,rfl⟩⟩
   .rw[xJ z]at h';simp only[zR,B]at h';cases h';exact⟨_,rfl,.inl rfl⟩
  |false=>
   simp only[zR,B];by_cases z:(j==NameKind.free && q.kind==.function && q.names.lookup n==some .cell)=true
   .rw[xQ z]at h';simp only[zR,B]at h';exact J h'
   .rw[xJ z]at h';simp only[zR,B]at h';exact J h'
structure D1(N:List Str)(sc scope:Scope)(own:List (Str×Nat)):Prop where
 kind:scope.kind=.function
 uniq:∀y∈scope.names,scope.names.lookup y.1=some y.2
 ix:∀p∈own,N[p.2]?=some p.1
 free:∀y∈scope.names,y.2=.free->sc.names.lookup y.1=some .cell\/sc.names.lookup y.1=some .free
 own:∀y∈scope.names,y.2=.local\/y.2=.cell->y.1∈own.map (·.1)\/y.1∉N
noncomputable def wipe(σ:St):List Nat->St
 |[]=>σ
 |v::vs=>(wipe σ vs).set v none
theorem MC(σ:St):∀vs:List Nat,(wipe σ vs).length=σ.length
 |[]=>rfl
 |v::vs=>by unfold wipe;rw[zZ,MC σ vs]
theorem Qm:∀{vs:List Nat},(wipe σ vs)[i]?=some (some x)->σ[i]?=some (some x)/\i∉vs
 |[],h=>⟨h,by simp⟩
 |v::vs,h=>by
  unfold wipe at h;by_cases hi:v=i
  .subst hi;by_cases j:v< (wipe σ vs).length
   .rw[AAw j]at h;cases h
   .rw[yc (by simpa using j)]at h;cases h
  .rw[ABA hi]at h;obtain⟨h1,h2⟩:=Qm h;exact⟨h1,by simp only[xb,AAi];exact⟨λe=>hi e.symm,h2⟩⟩
noncomputable abbrev Cx.YR(X:Cx)(s:Shared)(H:Hp)(j:Scope)(n:Env)(q:List Addr):Cx:={X with Zg:=s,rh:=H,env:=n,outer:=X.stack,ex:=q,fn:=λx=>j.names.lookup x==some .cell,pn:=[],xe:=λ_ _=>False}
section
variable{X:Cx}{pins:List (Addr×Obj)}{σ:St}{H:Hp}{s:Shared}
theorem bP{j:Scope}{own:List (Str×Nat)}{fp:List Addr}(I:Inv X pins σ H s)(ok:D1 X.N X.env.scope j own)(hN:X.N.Nodup)(M:∀b∈fp,Sy X pins H b/\b<s.heap.objs.size):
  Inv (X.YR s H j (compEnvC j (cellsFrom (s.heap.objs.size+1) j.names (B0 X.env.cells j.names [])) s.heap.objs.size X.env) fp) [] (wipe σ (own.map (·.2))) H {s with heap:=pushCells (s.heap.push {cls:=.type "dict",data:=.dict #[]}) j.names}:=by
 have ab:∀y∈j.names,y.2=.free->∃c,X.env.cells.lookup y.1=some c:=λy Y e=>by
  rcases ok.free y Y e with k|k
  .exact I.ok.has _ (.inl k)
  .exact I.ok.has _ (.inr k)
 generalize J:compEnvC j (cellsFrom (s.heap.objs.size+1) j.names (B0 X.env.cells j.names [])) s.heap.objs.size X.env=B;have kp:∀b o,s.heap.get? b=some o->(pushCells (s.heap.push {cls:=.type "dict",data:=.dict #[]}) j.names).get? b=some o:=λb o e=>ABF _ _ _ _ (xN _ e);have hL:B.locals=s.heap.objs.size:=by rw[<-J];rfl
 have L:B.cells=cellsFrom (s.heap.objs.size+1) j.names (B0 X.env.cells j.names []):=by rw[<-J];rfl
 have ae:B.scope=vS j X.env.scope:=by rw[<-J];rfl
 rw[<-x9 s.heap {cls:=.type "dict",data:=.dict #[]}]at L;have cm:∀{y c},(y,c)∈B0 X.env.cells j.names []->X.env.cells.lookup y=some c/\c<s.heap.objs.size:=λ{y c}N=>by
  rcases HS N with N|⟨h1,rfl⟩
  .cases N
  .obtain⟨c,hc⟩:=ab _ h1 rfl;rw[hc];obtain⟨w,z⟩:=I.cell _ _ hc;exact⟨rfl,z.lt⟩
 have af:∀{y c},B.cells.lookup y=some c->(X.env.cells.lookup y=some c/\c<s.heap.objs.size)\/(s.heap.objs.size+1<=c/\mS (pushCells (s.heap.push {cls:=.type "dict",data:=.dict #[]}) j.names) c none):=λ{y c}e=>by
  rw[L]at e;rcases Ib (yK e)with N|⟨_,h2,h3⟩
  .exact .inl (cm N)
  .rw[x9]at h2;exact .inr ⟨h2,h3⟩
 have look:∀{y},j.names.lookup y=some .free->∃c,B.cells.lookup y=some c/\X.env.cells.lookup y=some c:=λ{y}hl=>by
  have Y:(y,NameKind.free)∈j.names:=yK hl;obtain⟨c',O⟩:=mem_lookup (MZ (names:=j.names) (n:=(s.heap.push {cls:=.type "dict",data:=.dict #[]}).objs.size) (K6 (cells:=X.env.cells) (acc:=[]) Y));rw[<-L]at O;refine⟨c',O,?_⟩;rw[L]at O;rcases Ib (yK O)with N|⟨h1,_,_⟩
  .exact(cm N).1
  .have:=ok.uniq _ h1;rw[hl]at this;cases this
 have Ce:(X.YR s H j B fp).Ok:=by
  refine⟨I.ok.mod,by show B.scope.kind=_;rw[ae];exact ok.kind,by show B.globals=_;rw[<-J];exact I.ok.glob,by show B.builtins=_;rw[<-J];exact I.ok.blt,by show s.heap.objs.size<=B.locals;rw[hL];exact xZ _,
   λy z c e1 e2=>?_,λy Y=>?_,λy c z e=>?_,I.ok.hd,I.ok.frames,.inl rfl,λb hb=>⟨?_,λy c e z=>?_⟩,I.bs,xr I.ok.kT I.sz,λb o e hb=>?_,λb hb z=>?_,I.stack,I.gM⟩
  .have e1:B.cells.lookup y=some c:=e1;have e2:B.cells.lookup z=some c:=e2;rw[L]at e1 e2;refine Qx (λp hp=>?_) (λy z c a b=>I.ok.inj y z c (cm a).1 (cm b).1) (yK e1) (yK e2);rw[x9];exact yW (cm (y:=p.1) (c:=p.2) hp).2
  .show∃c,B.cells.lookup y=some c;have key:∀k,B.kindOf y=some k->(k=.cell\/k=.free)->∃c,B.cells.lookup y=some c:=λk hk ag=>by
    unfold Env.kindOf at hk;rw[ae]at hk;obtain⟨k',e,r⟩:=LY hk;have:k'=.cell\/k'=.free:=by
     rcases r with rfl|⟨rfl,_⟩
     .exact ag
     .exact .inr rfl
    rcases this with rfl|rfl
    .obtain⟨c,N⟩:=Q6 (n:=(s.heap.push {cls:=.type "dict",data:=.dict #[]}).objs.size) (acc:=B0 X.env.cells j.names []) (yK e);obtain⟨c',O⟩:=mem_lookup N;exact⟨c',by rw[L];exact O⟩
    .obtain⟨c,h1,_⟩:=look e;exact⟨c,h1⟩
   rcases Y with Y|Y
   .exact key _ Y (.inl rfl)
   .exact key _ Y (.inr rfl)
  .have z:(j.names.lookup y==some NameKind.cell)=true:=z;have z:j.names.lookup y=some .cell:=by simpa using z
   have e:B.cells.lookup y=some c:=e;rw[L]at e;rcases Ib (yK e)with N|⟨_,h2,_⟩
   .rcases HS N with N|⟨h1,_⟩
    .cases N
    .have q:=ok.uniq _ h1;rw[z]at q;cases q
   .rw[x9]at h2;exact AAq h2
  .show b≠B.locals;rw[hL];exact x6 (M b hb).2
  .have e:B.cells.lookup y=some c:=e;rcases af e with⟨h1,_⟩|⟨h1,_⟩
   .exact(M b hb).1.2.2.2.2.1 y c h1 z
   .have h2:s.heap.objs.size+1<=b:=by rw[<-z];exact h1
    exact absurd (yC (M b hb).2 (AAq h2)) (y8 _)
  .rcases(M b hb).1.2.2.2.1 with z|z
   .exact I.ok.ke b o e z
   .exact absurd (yC (xj e) (xr I.ok.kT z)) (y8 _)
  .rcases xb.mp (I.d6 b z)with z|z
   .exact(M b hb).1.2.1 z
   .exact(M b hb).1.2.2.1 z
 refine⟨Ce,rfl,I.bare,Un.kept kp,⟨λ_=>none,?_,λi y av e1 e2 U=>?_⟩,λy c e=>?_,?_,λy c e=>?_,λp hp=>?_,I.Cb.kept kp,by rw[MC];exact I.len⟩
 .show Heap.Ns _ B.locals _;rw[hL];exact Heap.Ns.keeps (Heap.Ns.new ..) λb o e=>ABF _ _ _ _ e
 .obtain⟨e2,aj⟩:=Qm e2;have aa:j.names.lookup y=some .free/\(B.kindOf y=some .cell\/B.kindOf y=some .free):=by
   have key:∀k,B.scope.names.lookup y=some k->k=.local\/k=.cell\/k=.free->j.names.lookup y=some .free/\(B.kindOf y=some .cell\/B.kindOf y=some .free):=λk hk ag=>by
    have ah:=hk;rw[ae]at hk;obtain⟨k',e,r⟩:=LY hk;have no:¬(k'=.local\/k'=.cell):=λhh=>by
     rcases ok.own _ (yK e) hh with O|O
     .obtain⟨p,hp,ak⟩:=x5.mp O;have U:=ok.ix p hp;have:p.1=y:=ak;rw[this]at U;exact aj (x5.mpr ⟨p,hp,Tu hN U e1⟩)
     .exact O (xO e1)
    rcases r with rfl|⟨rfl,rfl⟩
    .rcases ag with rfl|rfl|rfl
     .exact absurd (.inl rfl) no
     .exact absurd (.inr rfl) no
     .exact⟨e,.inr ah⟩
    .exact⟨e,.inl ah⟩
   have U:uA B.scope y:=U;rcases U with U|U|U
   .exact key _ U (.inl rfl)
   .exact key _ U (.inr (.inl rfl))
   .exact key _ U (.inr (.inr rfl))
  obtain⟨m,hn,hl⟩:=I.loc;have ai:uA X.env.scope y:=(ok.free _ (yK aa.1) rfl).elim (λk=>.inr (.inl k)) (λk=>.inr (.inr k));obtain⟨w,r,q⟩:=hl i y av e1 e2 ai;refine⟨w,r,.inr ⟨aa.2,?_⟩⟩;obtain⟨c,h1,h2⟩:=look aa.1;rcases q with⟨k,_⟩|⟨_,c',O,z⟩
  .have k:X.env.scope.names.lookup y=some .local:=k;rcases ok.free _ (yK aa.1) rfl with k'|k'<;> rw[show X.env.scope.names.lookup y=_ from k']at k<;> cases k
  .rw[h2]at O;cases O;exact⟨c,h1,z.keeps kp⟩
 .have e:B.cells.lookup y=some c:=e;rcases af e with⟨h1,_⟩|⟨_,z⟩
  .obtain⟨w,z⟩:=I.cell y c h1;exact⟨w,z.keeps kp⟩
  .exact⟨_,z⟩
 .show H B.locals=none;rw[hL];exact I.Cb.fresh (xZ _)
 .have e:B.cells.lookup y=some c:=e;rcases af e with⟨h1,_⟩|⟨h1,_⟩
  .exact I.Hr y c h1
  .exact I.Cb.fresh (AAq h1)
 .exact absurd (show p∈([]:List (Addr×Obj))++[]from hp) (by simp)
theorem qd(I:Inv X pins σ H s)(z:H D=some (.lst xs))(hz:xs.length<sizeLine)(r:RelV y v)
  (h:∀s',Inv X pins σ (upd H D (.lst (xs++[y]))) s'->Q .none s'):wpAny (model X.prog X.w) X.A (call (.builtin "list.append") [.ref D,v]) Q E s:=by
 obtain⟨J,its,n,B,e⟩:=I.Cb D _ z;have N:=B.length;refine append_at (hsz:=by rw[x1];lia) e λh' L j=>?_;refine h {s with heap:=h'} (I.write (t':=s.toks) (by rw[z];trivial) (.inl rfl) (λb u M q=>(L.2 b M).trans q) ⟨_,j⟩ ⟨by rw[xS];exact hz,its++[v],n+1,B.append (.cons r .nil),?_⟩);rw[j];simp
def uJ(X:Cx)(j:List Expr)(t:TT):Prop:=
 ∀(pins:List (Addr×Obj))(s:Shared)(σ:St)(H:Hp)(Q:Bool->Hp->Prop),Inv X pins σ H s->t σ H Q->
  wpAny (model X.prog X.w) X.A (forIn j true λc r=>if r=true then do let ok<-isTrue c X.env (eval c X.env);pure (ForInStep.yield ok)else pure (ForInStep.yield r)) (TP X pins σ Q) X.xe s
def tL:TT:=λ_ H Q=>Q true H
theorem Hz:uJ X [] tL:=λ_ _ _ H _ I h=>wpAny_tests_nil ⟨H,I,h⟩
theorem Hq(h:PT X c t):uJ X [c] t:=λpins s σ H Q I j=>wpAny_tests_one (h pins s σ H Q I j)
end
theorem iX(h:wpAny M A t Q (λ_ _=>False) s)(j:∀a s,Q a s->n a s):wpAny M A t n E s:=y4 h j λ_ _ z=>False.elim z
theorem ZE{prog:Program}{w:World}{A:Around}{R:Result->Shared->Prop}{s:Shared}{U target iter:Expr}{Y:List Expr}{q:Scope}{pos:Pos}{it acc:Value}{j:Env}(I:Nat->Shared->Prop)
  (ab:∀n s,I n s->wpAny (model prog w) A (pyNext it) (λr s₁=>match r with
   |none=>R (.ok .next) s₁
   |some v=>wpAny (model prog w) A (letOwnedTupleGo target it v) (λ_ z=>wpAny (model prog w) A (assign target j v) (λ_ J=>
     wpAny (model prog w) A (forIn Y true λc r=>if r=true then do let ok<-isTrue c j (eval c j);pure (ForInStep.yield ok)else pure (ForInStep.yield r)) (λok B=>
      if ok=true then wpAny (model prog w) A (eval U j) (λx L=>
       wpAny (model prog w) A (call (.builtin "list.append") [acc,x]) (λ_ M=>∃m,m<n/\I m M) (notedBy (model prog w) A j λe s'=>R (.error e) s') L) (notedBy (model prog w) A j λe s'=>R (.error e) s') B
      else∃m,m<n/\I m B) (notedBy (model prog w) A j λe s'=>R (.error e) s') J) (notedBy (model prog w) A j λe s'=>R (.error e) s') z) (notedBy (model prog w) A j λe s'=>R (.error e) s') s₁) (notedBy (model prog w) A j λe s'=>R (.error e) s') s)
  (n:Nat) (h:I n s):
  codeAny (model prog w) A (.compLoop (.ListComp U [⟨target,iter,Y,0⟩] q pos) 0 it acc j) R s:=by
 refine codeAny_loop rfl I (λn s hI=>?_) n h;show wpAny _ A ((compTurn (.ListComp U [⟨target,iter,Y,0⟩] q pos) 0 it acc j).onRaise (λx=>do noteFrame x j;theTreesLotGoes x)) _ _ s;refine wpAny_noted ?_;rw[compTurn_list];refine xG (ABa (xG (y4 (ab n s hI) (λr s₁ N=>?_) λ_ _ h'=>h')));cases r with
 |none=>exact xU N
 |some v=>
  refine xG (y4 N (λ_ z aa=>?_) λ_ _ h'=>h');refine xG (y4 aa (λ_ J ae=>xG (y4 ae (λok B O=>?_) λ_ _ h'=>h')) λ_ _ h'=>h');cases ok with
  |false=>exact xU ⟨rfl,O⟩
  |true=>exact xG (xG (y4 O (λx L af=>xG (y4 af (λ_ M ag=>xU (xU ⟨rfl,ag⟩)) λ_ _ h'=>h')) λ_ _ h'=>h'))
section
variable{X:Cx}
def uw(I:TI)(g:TG)(L:TT)(te:TE)(vs:List Nat):TE:=λσ H Q=>I σ H λJ H1=>∀D,H1 D=none->∃W:Nat->Nat->Hp->Prop,(∃m,W 0 m (upd H1 D (.lst [])))/\∀i m H,W i m H->
 (J.stop i H/\Q (.ref D) H)\/(J.go i H/\∃n:Hp->Prop,(∀H',n H'->∃q,q<m/\W (i+1) q H')/\∀x H',J.jz i H x H'->g x (wipe σ vs) H' λj H2=>wipe j vs=wipe σ vs/\L j H2 λb z=>
  if b=true then te j z λy B=>∃acc,B D=some (.lst acc)/\acc.length<sizeLine/\n (upd B D (.lst (acc++[y])))else n z)
theorem gg{pins:List (Addr×Obj)}{s:Shared}{σ:St}{H:Hp}{Q:VK}{U tg iter:Expr}{Y:List Expr}{B:Scope}{own:List (Str×Nat)}{pos pos':Pos}{wi:TI}{g:TG}{tt:TT}{te:TE}{use:Option (Value->Sem Unit)}{Qf:Value->Shared->Prop}
  (hc:X.calm=true) (hN:X.N.Nodup) (I:Inv X pins σ H s) (hi:PI X tg iter wi) (ok:D1 X.N X.env.scope B own)
  (hg:∀(s:Shared)(H:Hp)(C:Addr)(cl:List (Str×Addr))(M:List Addr),PG (X.YR s H B (compEnvC B cl C X.env) M) tg g) (ht:∀(s:Shared)(H:Hp)(C:Addr)(cl:List (Str×Addr))(M:List Addr),uJ (X.YR s H B (compEnvC B cl C X.env) M) Y tt)
  (he:∀(s:Shared)(H:Hp)(C:Addr)(cl:List (Str×Addr))(M:List Addr),PE (X.YR s H B (compEnvC B cl C X.env) M) U te) (hs:∀x,foldedSetIterable iter X.env x=pure x)
  (h:uw wi g tt te (own.map (·.2)) σ H Q)
  (au:∀D C s' m H',Inv X pins σ H' s'->Q (.ref D) H'->s'.heap.Ns C m->Sy X pins H' C->compPost (model X.prog X.w) X.A X.xe use Qf (.ref D) C (.ok .next) s'):
  wpAny (model X.prog X.w) X.A (comprehension (.ListComp U [⟨tg,iter,Y,0⟩] B pos) B X.env pos' (newList []) false (eval iter X.env) use) Qf X.xe s:=by
 have af:∀y∈B.names,y.2=.free->∃c,X.env.cells.lookup y.1=some c:=λy hy e=>by
  rcases ok.free y hy e with k|k
  .exact I.ok.has _ (.inl k)
  .exact I.ok.has _ (.inr k)
 refine wpAny_comprehension_free (use:=use) rfl hs (eY af) ok.kind (λy hy e=>by rw[ok.uniq y hy,e])
  (Bw (hi pins s σ H _ I h) λxv s1 hx=>Bw hx λaF s2 h2=>?_)
 obtain⟨it,M,tn,J,H2,e,I2,T,ah,f2,q⟩:=h2;subst e;refine yw (bL ?_) (by show 0<=sizeLine;decide);generalize hD:s2.heap.objs.size=D;have av:H2 D=none:=I2.Cb.fresh (ABs hD);obtain⟨W,⟨m0,w0⟩,ai⟩:=q D av;generalize aj:({s2 with heap:=s2.heap.push {cls:=.type "list",data:=.seq ([]:List Value).toArray}}:Shared)=L;have I3:Inv X pins σ (upd H2 D (.lst [])) L:=by rw[<-aj];refine I2.laid (t':=s2.toks) (λb o e=>xN _ e) (ABs hD) ⟨xi _,[],0,.nil,?_⟩;rw[<-hD];exact xf _ rfl
 have h3:L.heap=s2.heap.push {cls:=.type "list",data:=.seq ([]:List Value).toArray}:=by rw[<-aj]
 have sz:∀b∈M,b<s2.heap.objs.size:=λb N=>by obtain⟨o,e,_⟩:=T.obj _ _ ah b N;exact xj e
 have f3:∀b∈M,Sy X pins (upd H2 D (.lst [])) b/\b<L.heap.objs.size:=λb N=>by have ak:=sz b N;refine⟨⟨?_,(f2 b N).2⟩,by rw[h3,x9];exact yW ak⟩;rw[AG (by rw[<-hD];exact x6 ak)];exact(f2 b N).1
 have ax:tn 0 L.heap:=T.keep _ _ _ ah λb _ o e=>by rw[h3];exact xN _ e
 have I4:=bP I3 ok hN f3;have pg:=hg L (upd H2 D (.lst [])) L.heap.objs.size (cellsFrom (L.heap.objs.size+1) B.names (B0 X.env.cells B.names [])) M;have pt:=ht L (upd H2 D (.lst [])) L.heap.objs.size (cellsFrom (L.heap.objs.size+1) B.names (B0 X.env.cells B.names [])) M;have pe:=he L (upd H2 D (.lst [])) L.heap.objs.size (cellsFrom (L.heap.objs.size+1) B.names (B0 X.env.cells B.names [])) M;show codeAny _ _ (.compStart (.ListComp U [⟨tg,iter,Y,0⟩] B pos) 0 (.ref it) (.ref D) (compEnvC B (cellsFrom (L.heap.objs.size+1) B.names (B0 X.env.cells B.names [])) L.heap.objs.size X.env)) (compPost (model X.prog X.w) X.A X.xe use Qf (.ref D) L.heap.objs.size) {L with heap:=pushCells (L.heap.push {cls:=.type "dict",data:=.dict #[]}) B.names};have am:∀b∈M,(upd H2 D (.lst [])) b=none:=λb N=>(f3 b N).1.1;generalize ay:compEnvC B (cellsFrom (L.heap.objs.size+1) B.names (B0 X.env.cells B.names [])) L.heap.objs.size X.env=ce at I4 pg pt pe⊢;have cL:ce.locals=L.heap.objs.size:=by subst ay;rfl
 generalize aG:upd H2 D (.lst [])=H3 at I3 I4 pg pt pe w0 am f3;generalize az:({L with heap:=pushCells (L.heap.push {cls:=.type "dict",data:=.dict #[]}) B.names}:Shared)=s4 at I4⊢;have an:tn 0 s4.heap:=T.keep _ _ _ ax λb _ o e=>by rw[<-az];exact ABF _ _ _ _ (xN _ e)
 have O:∀{ao:St}{H':Hp}{s':Shared},Inv (X.YR L H3 B ce M) [] ao H' s'->(∀b∈M,H' b=none)->∀b∈M,Sy (X.YR L H3 B ce M) [] H' b:=λ{ao H' s'}I' hn b N=>
  ⟨hn b N,(I'.ok.vA b N).1,I'.ok.kl b N,.inl N,λx c e=>(I'.ok.vA b N).2 x c e,λp hp=>absurd (show p∈([]:List (Addr×Obj))++[]from hp) (by simp)⟩
 have ab:codeAny (model X.prog X.w) X.A (.compLoop (.ListComp U [⟨tg,iter,Y,0⟩] B pos) 0 (.ref it) (.ref D) ce) (compPost (model X.prog X.w) X.A X.xe use Qf (.ref D) L.heap.objs.size) s4:=by
  refine ZE (λn s'=>∃i H',Inv (X.YR L H3 B ce M) [] (wipe σ (own.map (·.2))) H' s'/\tn i s'.heap/\(∀b∈M,H' b=none)/\W i n H') ?_ m0 ⟨0,H3,I4,an,am,w0⟩;rintro n s5 ⟨i,H5,I5,ap,n5,w5⟩;rcases ai i n H5 w5 with⟨stop,qq⟩|⟨go,Nx,aA,step⟩
  .have td:=T.done (X.YR L H3 B ce M) rfl rfl rfl hc i [] s5 _ H5 (λ_ _=>False) I5 (O I5 n5) ap stop;refine iX td λr s6⟨hr,I6⟩=>?_;subst hr;have I7:Inv X pins σ H5 s6:=I3.ub (ch:=M) I6.os I6.base I6.Cb I6.bare λb N=>⟨(f3 b N).1.2.2.2.1,(f3 b N).1.2.1,(f3 b N).1.2.2.2.2.1,(f3 b N).1.2.2.2.2.2⟩;have nC:H5 L.heap.objs.size=none:=by
    have z:H5 ce.locals=none:=I6.free;rw[cL]at z;exact z
   obtain⟨m,hn,_⟩:=I6.loc;have hn:s6.heap.Ns ce.locals m:=hn;rw[cL]at hn;exact au D L.heap.objs.size s6 m H5 I7 qq hn (I3.Zo (xZ _) nC)
  .have ti:=T.item (X.YR L H3 B ce M) rfl rfl rfl hc i [] s5 _ H5 (λ_ _=>False) I5 (O I5 n5) ap go;refine iX ti λr s6⟨u,hr,h6⟩=>?_;subst hr;refine iX h6 λ_ s7 zz=>?_;obtain⟨x,H7,I7,r7,y7,ag,n7⟩:=zz;have aB:=I7.pinned (O I7 n7) (T.obj _ _ ag);refine iX (pg _ s7 _ H7 x u _ aB r7 (step x H7 y7)) λ_ s8⟨aa,H8,I8,aq,q8⟩=>?_;refine iX (pt _ s8 aa H8 _ I8 q8) λb s9⟨H9,I9,q9⟩=>?_;have fin:∀{s':Shared}{H':Hp},Inv (X.YR L H3 B ce M) ([]++Tq M s7.heap) aa H' s'->Nx H'->∃m,m<n/\∃i H',Inv (X.YR L H3 B ce M) [] (wipe σ (own.map (·.2))) H' s'/\tn i s'.heap/\(∀b∈M,H' b=none)/\W i m H':=λ{s' H'}I' nx=>by
    obtain⟨m',hm,w'⟩:=aA H' nx;have ae:∀b∈M,∀o,s7.heap.get? b=some o->s'.heap.get? b=some o/\H' b=none:=λb N o e=>
     let z:=I'.pin (b,o) (yb _ (yb _ (N7 N e)))
     ⟨z.1,z.2.1⟩
    have hl:(wipe σ (own.map (·.2))).length=aa.length:=by rw[<-aq,MC]
    refine⟨m',hm,i+1,H',(I'.O3 (pins:=[])).weak hl (λj v e=>?_),T.keep _ _ _ ag λb N o e=>(ae b N o e).1,λb N=>?_,w'⟩
    .rw[<-aq]at e;exact(Qm e).1
    .obtain⟨o,e,_⟩:=T.obj _ _ ag b N;exact(ae b N o e).2
   cases b with
   |false=>simp only[ABW,ABu]at q9⊢;exact fin I9 q9
   |true=>simp only[AA9]at q9⊢;refine iX (pe _ s9 aa H9 _ I9 q9) λz aH zz=>?_;obtain⟨yv,aI,aC,aD,acc,ar,as,nx⟩:=zz;exact qd (X:=X.YR L H3 B ce M) aC ar as aD λaJ aE=>fin aE nx
 exact codeAny_compStart_list ab (T.self X.A 0 _ _ _ an ab)
theorem Hw{n tg iter:Expr}{z:List Expr}{j:Scope}{own:List (Str×Nat)}{pos:Pos}{J:TI}{g:TG}{L:TT}{te:TE}(M:X.calm=true)(N:X.N.Nodup)(hi:PI X tg iter J)(ok:D1 X.N X.env.scope j own)
  (O:∀(s:Shared)(H:Hp)(C:Addr)(cl:List (Str×Addr))(B:List Addr),PG (X.YR s H j (compEnvC j cl C X.env) B) tg g) (U:∀(s:Shared)(H:Hp)(C:Addr)(cl:List (Str×Addr))(B:List Addr),uJ (X.YR s H j (compEnvC j cl C X.env) B) z L)
  (Y:∀(s:Shared)(H:Hp)(C:Addr)(cl:List (Str×Addr))(B:List Addr),PE (X.YR s H j (compEnvC j cl C X.env) B) n te) (hs:∀x,foldedSetIterable iter X.env x=pure x:=by intro _;rfl):
  PE X (.ListComp n [⟨tg,iter,z,0⟩] j pos) (uw J g L te (own.map (·.2))):=by
 intro pins s σ H Q I h;rw[eval_ListComp];refine gg M N I hi ok O U Y hs h λD C s' m H' I' q hn f=>⟨m,hn,λaa sb=>?_⟩;obtain⟨f0,f1,f2,f3,f4,f5⟩:=f;exact⟨.ref D,H',I'.turned (t':=s'.toks) (λb o hb e=>(sb.2 b hb).trans e) f0 f1 f3 f4 f5,rfl,q⟩
theorem cK{i:Nat}{y:Str}{py:Pos}{B tg iter:Expr}{n:List Expr}{j:Scope}{own:List (Str×Nat)}{pos J:Pos}{O:TI}{g:TG}{U:TT}{te:TE}(hc:X.calm=true)(hN:X.N.Nodup)(hy:X.N[i]?=some y)(M:X.env.scope.names.lookup y=some .local)
  (Y:swapsWith (.ListComp B [⟨tg,iter,n,0⟩] j pos) (some (.Name y py)) J.line X.env=pure true) (hi:PI X tg iter O) (ok:D1 X.N X.env.scope j own)
  (hg:∀(s:Shared)(H:Hp)(C:Addr)(cl:List (Str×Addr))(N:List Addr),PG (X.YR s H j (compEnvC j cl C X.env) N) tg g) (ht:∀(s:Shared)(H:Hp)(C:Addr)(cl:List (Str×Addr))(N:List Addr),uJ (X.YR s H j (compEnvC j cl C X.env) N) n U)
  (he:∀(s:Shared)(H:Hp)(C:Addr)(cl:List (Str×Addr))(N:List Addr),PE (X.YR s H j (compEnvC j cl C X.env) N) B te) (hs:∀x,foldedSetIterable iter X.env x=pure x:=by intro _;rfl):
  PS X (.Assign [.Name y py] (.ListComp B [⟨tg,iter,n,0⟩] j pos) J) (mD (uw O g U te (own.map (·.2))) (R7 i)):=by
 intro pins s σ H D I h;rw[exec_Assign_Name_used _ _ _ _ Y];refine xG (ABa (xG ?_));show wpAny _ X.A (do let _<-comprehension (.ListComp B [⟨tg,iter,n,0⟩] j pos) j X.env (firstIterPos [⟨tg,iter,n,0⟩] pos) (newList []) false (eval iter X.env) (some (assign (.Name y py) X.env))) _ _ s;have h:uw O g U te (own.map (·.2)) σ H (λx H1=>R7 i x σ H1 D.nx):=h;refine xG (Bw (gg (Qf:=λ_ s'=>SP X pins D .next s') hc hN I hi ok hg ht he hs h λL C s' m H' I' q hn f=>?_) λ_ s' hq=>xU (xU hq));show wpAny _ _ (assign (.Name y py) X.env (.ref L)) _ _ _;refine wpAny_assign_Name (Xg (v:=V.ref L) I' hN hy (.inl M) rfl (λs2 I2⟨a,sb,ha⟩=>?_) (.inr M));obtain⟨f0,f1,f2,f3,f4,f5⟩:=f;have aa:C≠a:=by
  rcases ha with z|z
  .rw[z];exact f1
  .exact λe=>f4 y a z e.symm
 refine⟨m,hn.sameBut sb aa,λh3 ab=>?_⟩;exact⟨_,H',I2.turned (t':=s2.toks) (λb o hb e=>(ab.2 b hb).trans e) f0 f1 f3 f4 f5,q⟩
theorem gJ{z:Expr}{gs:List Comprehension}{j:Scope}{pos py:Pos}{y:Str}{l:Nat}{q:Env}(B:q.scope.kind=.function)(I:q.scope.names.lookup y=some .local)(J:(py.line==pos.line)=true)
  (L:(j.names.any λ(n,k)=>n==y && (k==.local|| k==.cell))=false):swapsWith (.ListComp z gs j pos) (some (.Name y py)) l q=pure true:=by
 have M:q.kindOf y=some .local:=I;have N:q.blockKind=.function:=by unfold Env.blockKind;rw[B];rfl
 unfold swapsWith;simp only[N,M,L,Expr.pos,J];rfl
end
theorem cU{lo:Int}{n:Nat}{g:TG}{J:TT}{te:TE}{vs:List Nat}{σ:St}{H1:Hp}{D:Addr}{L:Hp->Prop}(Pv:Nat->Hp->Prop)(N:Pv 0 (upd H1 D (.lst [])))
  (O:∀i H,i<n->Pv i H->g (.int (lo+i)) (wipe σ vs) H λj H2=>wipe j vs=wipe σ vs/\J j H2 λb z=>
   if b=true then te j z λy B=>∃acc,B D=some (.lst acc)/\acc.length<sizeLine/\Pv (i+1) (upd B D (.lst (acc++[y])))else Pv (i+1) z) (hd:∀H,Pv n H->L H):
  ∃W:Nat->Nat->Hp->Prop,(∃m,W 0 m (upd H1 D (.lst [])))/\∀i m H,W i m H->
   ((m9 lo n).stop i H/\L H)\/((m9 lo n).go i H/\∃I:Hp->Prop,(∀H',I H'->∃M,M<m/\W (i+1) M H')/\∀x H',(m9 lo n).jz i H x H'->g x (wipe σ vs) H' λj H2=>wipe j vs=wipe σ vs/\J j H2 λb z=>
    if b=true then te j z λy B=>∃acc,B D=some (.lst acc)/\acc.length<sizeLine/\I (upd B D (.lst (acc++[y])))else I z):=by
 refine⟨λi m H=>m=n - i/\i<=n/\Pv i H,⟨n,by simp,xi _,N⟩,?_⟩;rintro i m H ⟨rfl,hi,p⟩;by_cases q:i<n
 .refine .inr ⟨q,Pv (i+1),λH' U=>⟨n - (i+1),Om,rfl,q,U⟩,λx H' y=>?_⟩;obtain⟨e,y⟩:=y;subst e y;exact O i _ q p
 .have e:i=n:=by lia
  subst e;exact .inl ⟨xZ _,hd H p⟩
theorem FP{K:PySem.W.Frag}{a:Addr}{xs:List V}{g:TG}{J:TT}{te:TE}{vs:List Nat}{σ:St}{H1:Hp}{D:Addr}{L:Hp->Prop}(Pv:Nat->Hp->Prop)(N:Pv 0 (upd H1 D (.lst [])))(O:∀i H,i<=xs.length->Pv i H->Ah K H a xs)
  (U:∀i x H,xs[i]?=some x->Pv i H->g x (wipe σ vs) H λj H2=>wipe j vs=wipe σ vs/\J j H2 λb n=>
   if b=true then te j n λy z=>∃acc,z D=some (.lst acc)/\acc.length<sizeLine/\Pv (i+1) (upd z D (.lst (acc++[y])))else Pv (i+1) n) (hd:∀H,Pv xs.length H->L H):
  ∃W:Nat->Nat->Hp->Prop,(∃m,W 0 m (upd H1 D (.lst [])))/\∀i m H,W i m H->
   ((pV K a).stop i H/\L H)\/((pV K a).go i H/\∃I:Hp->Prop,(∀H',I H'->∃M,M<m/\W (i+1) M H')/\∀x H',(pV K a).jz i H x H'->g x (wipe σ vs) H' λj H2=>wipe j vs=wipe σ vs/\J j H2 λb n=>
    if b=true then te j n λy z=>∃acc,z D=some (.lst acc)/\acc.length<sizeLine/\I (upd z D (.lst (acc++[y])))else I n):=by
 refine⟨λi m H=>m=xs.length - i/\i<=xs.length/\Pv i H,⟨xs.length,by simp,xi _,N⟩,?_⟩;rintro i m H ⟨rfl,hi,p⟩;have q:=O i H hi p;by_cases B:i<xs.length
 .refine .inr ⟨⟨xs,xs[i],q,by simp[B]⟩,Pv (i+1),λH' Y=>⟨xs.length - (i+1),Om,rfl,B,Y⟩,λx H' y=>?_⟩;obtain⟨e,y⟩:=y;subst e;exact U i x _ (y xs q) p
 .have e:i=xs.length:=by lia
  subst e;exact .inl ⟨⟨xs,q,xZ _⟩,hd H p⟩
noncomputable def tX(N:List Str)(n j:Scope)(own:List (Str×Nat)):Bool:=
 (match j.kind with| .function=>true|_=>false) && (j.names.all λy=>decide (j.names.lookup y.1=some y.2)) && (own.all λp=>decide (N[p.2]?=some p.1)) &&
  (j.names.all λy=>match y.2 with
   | .free=>(match n.names.lookup y.1 with|some .cell=>true|some .free=>true|_=>false)
   | .local=>decide (y.1∈own.map (·.1))|| decide (y.1∉N)
   | .cell=>decide (y.1∈own.map (·.1))|| decide (y.1∉N)
   |_=>true)
theorem CB{N:List Str}{z j:Scope}{own:List (Str×Nat)}(h:tX N z j own=true):D1 N z j own:=by
 unfold tX at h;simp only[x4,xk,yN]at h;obtain⟨⟨⟨h1,h2⟩,I⟩,B⟩:=h;refine⟨?_,h2,I,λy n e=>?_,λy n e=>?_⟩
 .split at h1
  .assumption
  .cases h1
 .have q:=B y n;simp only[e]at q;split at q<;> first|exact .inl (by assumption)|exact .inr (by assumption)|cases q
 .have q:=B y n;rcases e with e|e<;> (simp only[e,AAc,yN]at q;exact q)
section
variable{κ:Type} [DecidableEq κ]
noncomputable def C4(kvs:List (κ×V))(k:κ):Option V:=(kvs.find? λj=>decide (j.1=k)).map (·.2)
noncomputable def putK(kvs:List (κ×V))(k:κ)(v:V):List (κ×V):=
 if(kvs.any λj=>decide (j.1=k))=true then kvs.map (λj=>if j.1=k then(j.1,v)else j)else kvs++[(k,v)]
theorem DH{p:κ×V}{r:List (κ×V)}{k:κ}(e:p.1=k):C4 (p::r) k=some p.2:=by simp[C4,zB,e]
theorem DJ{p:κ×V}{r:List (κ×V)}{k:κ}(e:¬p.1=k):C4 (p::r) k=C4 r k:=by simp[C4,zB,e]
theorem cO(k:κ):∀kvs:List (κ×V),(kvs.any λj=>decide (j.1=k))=(C4 kvs k).isSome
 |[]=>rfl
 |p::r=>by
  rw[AAE];by_cases e:p.1=k
  .simp only[DH e,xR e,Bool.true_or,Option.isSome_some]
  .rw[DJ e,xV e,yo];exact cO k r
theorem K3(kvs:List (κ×V))(k:κ)(v:V):(putK kvs k v).length<=kvs.length+1:=by
 unfold putK;split
 .rw[xH];lia
 .rw[xS,xg,AB8];lia
theorem Jz.Xf(r:Jz o u):o.isSome=u.isSome:=by
 cases o with
 |none=>cases u with
  |none=>rfl
  |some _=>exact(show False from r).elim
 |some _=>cases u with
  |none=>exact(show False from r).elim
  |some _=>rfl
theorem Jz.getD(r:Jz o u)(rd:RelV d d'):RelV (o.getD d) (u.getD d'):=by
 cases o with
 |none=>cases u with
  |none=>exact rd
  |some _=>exact(show False from r).elim
 |some _=>cases u with
  |none=>exact(show False from r).elim
  |some _=>exact r
theorem KV.val{kvs:List (κ×V)}{vs:List (κ×Value)}(r:KV kvs vs)(k:κ):Jz (C4 kvs k) (valueAt vs k):=by
 unfold KV at r
 induction r with
 |nil=>exact True.intro
 | @cons p q ps qs h t n=>
  obtain⟨h1,h2⟩:=h;by_cases e:p.1=k
  .have j:q.1=k:=h1.symm.trans e;have b:valueAt (q::qs) k=some q.2:=by simp[valueAt,zB,j]
   rw[DH e,b];exact h2
  .have j:¬q.1=k:=λz=>e (h1.trans z);have b:valueAt (q::qs) k=valueAt qs k:=by simp[valueAt,zB,j]
   rw[DJ e,b];exact n
theorem KV.any(r:KV kvs vs)(k:κ):(kvs.any λj=>decide (j.1=k))=vs.any λj=>decide (j.1=k):=by
 unfold KV at r
 induction r with
 |nil=>rfl
 |cons h t n=>rw[AAE,AAE,n,h.1]
theorem KV.sE(r:KV kvs vs)(k:κ)(n:RelV y u):
  KV (kvs.map λj=>if j.1=k then(j.1,y)else j) (vs.map λj=>if j.1=k then(j.1,u)else j):=by
 unfold KV at r⊢
 induction r with
 |nil=>exact .nil
 | @cons p q ps qs h t B=>
  rw[yE,yE];refine .cons ?_ B;obtain⟨h1,h2⟩:=h;by_cases e:p.1=k
  .rw[xQ e,xQ (h1.symm.trans e)];exact⟨h1,n⟩
  .rw[xJ e,xJ (λz=>e (h1.trans z))];exact⟨h1,h2⟩
theorem KV.put(r:KV kvs vs)(k:κ)(j:RelV y u):KV (putK kvs k y) (stored vs k u):=by
 unfold putK stored;rw[r.any k];by_cases e:(vs.any λn=>decide (n.1=k))=true
 .rw[xQ e,xQ e];exact r.sE k j
 .rw[xJ e,xJ e];exact Paired.snoc r ⟨rfl,j⟩
theorem KV.length(r:KV kvs vs):kvs.length=vs.length:=zF r
end
theorem SQ{P:Program}{w:World}{k:Key}{u:Value}(r:RelV (kV k) u):(BQ P w).is k u=true:=by
 cases k with
 |inl i=>obtain⟨t,e⟩:=(show∃t,u=Value.int i t from r);subst e;exact Z8 P w i t
 |inr x=>obtain⟨t,e⟩:=(show∃t,u=Value.str x t from r);subst e;exact cw P w x t
theorem Xw{P:Program}{w:World}:∀{ks:List Key}{us:List Value},Vals (ks.map kV) us->ItemsAre (BQ P w) ks us
 |[],_,r=>by rw[ABv]at r;cases r;exact .nil
 |k::ks,_,r=>by
  rw[yE]at r;cases r with
  |cons h t=>exact .cons (SQ h) (Xw t)
abbrev KT(H:Hp):List (List Key×V)->List (List Key×Addr×Value)->Prop:=Paired λp q=>p.1=q.1/\H q.2.1=some (.tup (p.1.map kV))/\RelV p.2 q.2.2
theorem KT.val{H:Hp}{kvs:List (List Key×V)}{xs:List (List Key×Addr×Value)}(r:KT H kvs xs)(k:List Key):Jz (C4 kvs k) ((atKey xs k).map (·.2)):=by
 induction r with
 |nil=>exact True.intro
 | @cons p q ps qs h t n=>
  obtain⟨h1,_,h2⟩:=h;by_cases e:p.1=k
  .have j:q.1=k:=h1.symm.trans e;have b:atKey (q::qs) k=some q.2:=by simp[atKey,zB,j]
   rw[DH e,b];exact h2
  .have j:¬q.1=k:=λz=>e (h1.trans z);have b:atKey (q::qs) k=atKey qs k:=by simp[atKey,zB,j]
   rw[DJ e,b];exact n
theorem KT.sE(r:KT H kvs xs)(k:List Key)(n:RelV y u):
  KT H (kvs.map λj=>if j.1=k then(j.1,y)else j) (xs.map (putAt k u)):=by
 induction r with
 |nil=>exact .nil
 | @cons p q ps qs h t B=>
  rw[yE,yE];refine .cons ?_ B;obtain⟨h1,h2,I⟩:=h;unfold putAt;by_cases e:p.1=k
  .rw[xQ e,xQ (h1.symm.trans e)];exact⟨h1,h2,n⟩
  .rw[xJ e,xJ (λz=>e (h1.trans z))];exact⟨h1,h2,I⟩
theorem KT.put(r:KT H kvs xs)(k:List Key)(n:H b=some (.tup (k.map kV)))(j:RelV y u):
  KT H (putK kvs k y) (storedH xs k b u):=by
 have e:(kvs.any λz=>decide (z.1=k))=(atKey xs k).isSome:=by rw[cO,(r.val k).Xf,ABi]
 unfold putK storedH;rw[e];by_cases q:(atKey xs k).isSome=true
 .rw[xQ q,xQ q];exact r.sE k j
 .rw[xJ q,xJ q];exact Paired.snoc r ⟨rfl,n,j⟩
theorem KT.keeps(r:KT H kvs xs)(j:∀b ys,H b=some (.tup ys)->H' b=some (.tup ys)):KT H' kvs xs:=
 Paired.sI r λ_ _ z=>⟨z.1,j _ _ z.2.1,z.2.2⟩
section
variable{P:Program}{w:World}{H:Hp}{h:Heap}{a:Addr}
theorem pW(ok:Kw P w H h)(e:Rd H a u):CC P w H h a u:=e.ok ok
theorem VF(ok:Kw P w H h)(e:Rd H a (.dK kvs)):kvs.length<=sizeLine/\(a==sysModules)=false/\∃vs,KV kvs vs/\h.DictOf (BQ P w) a vs:=
 show CC P w H h a (.dK kvs)from pW ok e
theorem qC(ok:Kw P w H h)(e:H a=some (.dK kvs)):kvs.length<=sizeLine/\(a==sysModules)=false/\∃vs,KV kvs vs/\h.DictOf (BQ P w) a vs:=VF ok (.inl e)
theorem YB(ok:Kw P w H h)(e:H a=some (.tup (ks.map kV))):(tupleKind (BQ P w)).is h ks a:=by obtain⟨_,its,r,o,h1,h2,n,j⟩:=(show CC P w H h a (.tup (ks.map kV))from ok a _ e);exact⟨o,its.toArray,n,h1,h2,j,by simpa using Xw r⟩
theorem bq(ok:Kw P w H h)(e:Rd H a (.dT kvs)):kvs.length<=sizeLine/\(a==sysModules)=false/\
  ∃xs,KT H kvs xs/\h.DictOfH (tupleKind (BQ P w)) a xs:=by
 obtain⟨z,y,xs,r,o,es,ep,h1,h2,B,I,J⟩:=(show CC P w H h a (.dT kvs)from pW ok e);refine⟨z,y,xs,r,o,es,ep,h1,h2,B,I,λx j=>?_,J⟩;have all:∀{l:List (List Key×V)}{m:List (List Key×Addr×Value)},KT H l m->∀x∈m,(tupleKind (BQ P w)).is h x.1 x.2.1:=by
  intro l m q
  induction q with
  |nil=>intro x j;exact nomatch j
  | @cons p q ps qs n t L=>
   intro x j;rcases xb.mp j with e|j
   .subst e;exact YB ok (by rw[<-n.1];exact n.2.1)
   .exact L x j
 exact all r x j
theorem tp(ok:Kw P w H h)(e:H a=some (.dT kvs)):kvs.length<=sizeLine/\(a==sysModules)=false/\
  ∃xs,KT H kvs xs/\h.DictOfH (tupleKind (BQ P w)) a xs:=bq ok (.inl e)
end
def Qp(H:Hp)(a:Addr)(y:V)(r:Option V):Prop:=
 (∃kvs k,Rd H a (.dK kvs)/\y=kV k/\r=C4 kvs k)\/∃kvs k b,Rd H a (.dT kvs)/\y=.ref b/\H b=some (.tup (k.map kV))/\r=C4 kvs k
def Y5(H:Hp)(a:Addr)(y v:V)(H':Hp):Prop:=
 (∃kvs k,H a=some (.dK kvs)/\y=kV k/\kvs.length<sizeLine/\H'=upd H a (.dK (putK kvs k v)))\/
 ∃kvs k b,H a=some (.dT kvs)/\y=.ref b/\H b=some (.tup (k.map kV))/\kvs.length<sizeLine/\H'=upd H a (.dT (putK kvs k v))
theorem Qp.k{H:Hp}{a:Addr}{kvs:List (Key×V)}{k:Key}(e:H a=some (.dK kvs)):Qp H a (kV k) (C4 kvs k):=.inl ⟨kvs,k,.inl e,rfl,rfl⟩
theorem Qp.t{H:Hp}{a b:Addr}{kvs:List (List Key×V)}{k:List Key}(e:H a=some (.dT kvs))(j:H b=some (.tup (k.map kV))):Qp H a (.ref b) (C4 kvs k):=.inr ⟨kvs,k,b,.inl e,rfl,j,rfl⟩
theorem Y5.k{H:Hp}{a:Addr}{kvs:List (Key×V)}{k:Key}{v:V}(e:H a=some (.dK kvs))(j:kvs.length<sizeLine):Y5 H a (kV k) v (upd H a (.dK (putK kvs k v))):=.inl ⟨kvs,k,e,rfl,j,rfl⟩
theorem Y5.t{H:Hp}{a b:Addr}{kvs:List (List Key×V)}{k:List Key}{v:V}(e:H a=some (.dT kvs))(j:H b=some (.tup (k.map kV)))(n:kvs.length<sizeLine):
  Y5 H a (.ref b) v (upd H a (.dT (putK kvs k v))):=.inr ⟨kvs,k,b,e,rfl,j,n,rfl⟩
section
variable{X:Cx}{pins:List (Addr×Obj)}{σ:St}{H:Hp}{s:Shared}{a:Addr}{y v:V}{u r:Value}{o:Option V}{A:Around}{E:Value->Shared->Prop}
theorem Inv.big(I:Inv X pins σ H s):sysModules<s.heap.objs.size:=by have h:mainGlobals<s.heap.objs.size:=(I.mod.glob.keeps I.bk).lt;exact ABG Dc h
theorem jW(N:A.units+1<cLine)(I:Inv X pins σ H s)(g:Qp H a y (some v))(M:RelV y u)(h:∀n s',Inv X pins σ H s'->RelV v n->Q n s'):
  wpAny (model X.prog X.w) A (getItem (.ref a) u) Q E s:=by
 rcases g with⟨kvs,k,e,q,l⟩|⟨kvs,k,b,e,q,O,l⟩
 .subst q;obtain⟨z,hd,vs,rel,B⟩:=VF I.Cb e;obtain⟨n,J,j⟩:=Jz.some_of (v:=v) (o:=valueAt vs k) (by rw[l];exact rel.val k);exact wpAny_getItem_of (SQ M) B.mapOf J (h n _ (I.tok _) j)
 .subst q;cases(show u=Value.ref b from M);obtain⟨z,hd,xs,rel,B⟩:=bq I.Cb e;obtain⟨n,J,j⟩:=Jz.some_of (v:=v) (o:=(atKey xs k).map (·.2)) (by rw[l];exact rel.val k);obtain⟨p,U,L⟩:=xu.mp J;refine wpAny_getItem_heap (ABX N) (YB I.Cb O) B U ?_;rw[L];exact h n _ (I.tok _) j
theorem Y8(I:Inv X pins σ H s)(n:pO (H a))(B:Heap.SameBut a s.heap h')(J:∃q,h'.get? a=some q)(new:CC X.prog X.w (upd H a j) h' a j):
  Inv X pins σ (upd H a j) {s with heap:=h',toks:=t'}:=
 I.write (x:=a) (e:=a) n (.inl rfl) (λb q L z=>(B.2 b L).trans z) J new
theorem l8{P:Program}{w:World}{H':Hp}{h':Heap}{kvs:List (Key×V)}{vs:List (Key×Value)}(z:kvs.length<=sizeLine)(hd:(a==sysModules)=false)(rel:KV kvs vs)(j:h'.DictOf (BQ P w) a vs):
  CC P w H' h' a (.dK kvs):=⟨z,hd,vs,rel,j⟩
theorem iV(hu:A.units+1<cLine)(I:Inv X pins σ H s)(g:Y5 H a y v H')(O:RelV y u)(U:RelV v r)(h:∀s',Inv X pins σ H' s'->Q () s'):
  wpAny (model X.prog X.w) A (setItem (.ref a) u r) Q E s:=by
 rcases g with⟨kvs,k,e,B,l,J⟩|⟨kvs,k,b,e,B,Y,l,J⟩
 .subst B J;obtain⟨z,hd,vs,rel,L⟩:=qC I.Cb e;have hz:vs.length<=sizeLine:=by rw[<-rel.length];exact z
  have M:(putK kvs k v).length<=sizeLine:=by have:=K3 kvs k v;lia
  refine wpAny_setItem_pairs (hsz:=hz) (SQ O) L λh' j N=>h _ ?_;have he:∃q,h'.get? a=some q:=let⟨q,_,_,n,_⟩:=j;⟨q,n⟩;exact Y8 I (by rw[e];exact True.intro) N he (l8 M hd (rel.put k U) j)
 .subst B J;cases(show u=Value.ref b from O);obtain⟨z,hd,xs,rel,L⟩:=tp I.Cb e;have hz:xs.length<=sizeLine:=by rw[<-zF rel];exact z
  have M:(putK kvs k v).length<=sizeLine:=by have:=K3 kvs k v;lia
  refine wpAny_setItem_heap (hsz:=hz) (ABX hu) (YB I.Cb Y) L λh' j N=>h _ ?_;obtain⟨q,es,ep,n,h2,h3,h4,_,h5⟩:=j;refine Y8 I (by rw[e];exact True.intro) N ⟨q,n⟩ ⟨M,hd,_,(rel.put k Y U).keeps λc ys ec=>?_,q,es,ep,n,h2,h3,h4,h5⟩;rw[AG (Dv ec e (λz=>nomatch z))];exact ec
end
def rQ(i:Expr):Prop:=∀j n,subscripted i false j n=operate [j,n] (getItem j n)
theorem iJ{prog:Program}{w:World}{A:Around}{E:Value->Shared->Prop}{s:Shared}{z:Env}{value slice:Expr}{pos:Pos}{T id:String}{Q:Value->Shared->Prop}
  (L:typeLookup (.type T) "__getitem__"=pure (some (.builtin id))) (M:rQ slice)
  (h:wpAny (model prog w) A (eval value z) (λo s₁=>wpAny (model prog w) A (eval slice z) (λi j=>j.TypeIs o T/\wpAny (model prog w) A (getItem o i) Q E j) E s₁) E s):
  wpAny (model prog w) A (eval (.Subscript value slice pos) z) Q E s:=by
 refine Subscript_ (y4 h (λo s₁ B=>y4 B (λi j n=>?_) λ_ _ x=>x) λ_ _ x=>x);obtain⟨J,n⟩:=n;unfold subscriptTail;refine xG ?_;rw[getitemInPython_of_ne J.not_modules];refine xG (wpAny_specialOf J L ?_);have fin:wpAny (model prog w) A (subscripted slice false o i) (λr q=>wpAny (model prog w) A (letTemporaryGo value o r >>=λ_=>pure r) Q E q) E j:=by rw[M o i];exact wpAny_operating (y4 n (λr q I=>xG (wpAny_letTemporaryGo (xU I))) λ_ _ x=>x)
 first
  |exact xU (xG fin)
  |exact xG (xU (xG fin))
  |exact xG fin
theorem Zw{X:Cx}{pins:List (Addr×Obj)}{σ:St}{H:Hp}{s:Shared}{a:Addr}{y:V}{o:Option V}(I:Inv X pins σ H s)(g:Qp H a y o):s.TypeIs (.ref a) "dict":=by
 rcases g with⟨kvs,k,e,_,_⟩|⟨kvs,k,b,e,_,_,_⟩
 .obtain⟨_,_,vs,_,j⟩:=VF I.Cb e;exact j.typeIs
 .obtain⟨_,_,xs,_,j⟩:=bq I.Cb e;exact j.typeIs
inductive r8(Q:VK)(x:V)(y:V)(H2:Hp):Prop
 |mk (a v) (_:x=.ref a) (_:Qp H2 a y (some v)) (_:Q v H2)
def uc(td ty:TE):TE:=λσ H Q=>td σ H λx H1=>ty σ H1 (r8 Q x)
def pX(td ty tv:TE):TS:=λD σ H=>tv σ H λv H1=>td σ H1 λx H2=>ty σ H2 λy n=>∃a j,x=.ref a/\Y5 n a y v j/\D.nx σ j
section
variable{X:Cx}{o i e value:Expr}{pos pos' tpos:Pos}{td ty tv:TE}
theorem pD(q:X.A.units+1<cLine)(z:PE X o td)(hi:PE X i ty)(B:rQ i):PE X (.Subscript o i pos) (uc td ty):=by intro pins s σ H Q I h;refine iJ ABm.lookup B (Bw (z pins s σ H _ I h) λu J⟨x,H1,L,M,N⟩=>Bw (hi pins J σ H1 _ L N) λiv s2 O=>?_);obtain⟨y,H2,n,U,a,v,ex,g,Y⟩:=O;subst ex;obtain rfl:u=Value.ref a:=M;exact⟨Zw n g,jW q n g U λw' s3 I3 j=>⟨v,H2,I3,j,Y⟩⟩
theorem gK(j:X.A.units+1<cLine)(n:PE X o td)(hi:PE X i ty)(q:PE X value tv)(z:swapsWith value (some (.Subscript o i pos')) pos.line X.env=pure false):
  PS X (.Assign [.Subscript o i pos'] value pos) (pX td ty tv):=by
 intro pins s σ H D I h;refine wpAny_Assign_Subscript (Bw (q pins s σ H _ I h) λr B⟨v,H1,J,L,M⟩=>Bw (n pins B σ H1 _ J M) λu N⟨x,H2,O,U,Y⟩=>Bw (hi pins N σ H2 _ O Y) λiv s3 zz=>?_) z;obtain⟨y,H3,I3,ry,a,H4,ex,g,q3⟩:=zz;subst ex;obtain rfl:u=Value.ref a:=U;exact iV j I3 g ry L λs4 I4=>⟨σ,H4,I4,q3⟩
end
theorem bQ{P:Program}{w:World}{H:Hp}(h:Heap)(j:sysModules<h.objs.size):CC P w H (h.push {cls:=.type "dict",data:=.dict #[]}) h.objs.size (.dK []):=
 ⟨xi _,yF.mpr (x8 (x6 j)),[],.nil,Heap.DictOf.new h⟩
def rO:TE:=λ_ H Q=>∀p,H p=none->Q (.ref p) (upd H p (.dK []))
section
variable{X:Cx}{pos:Pos}
theorem bW:PE X (.Dict [] [] pos) rO:=λpins s σ H Q I h=>
 wpAny_Dict_empty ⟨.ref s.heap.objs.size,_,I.laid (a:=s.heap.objs.size) (o:=.dK []) (t':=s.toks) (λ_ _ q=>xN _ q) (xZ _) (bQ s.heap I.big),rfl,h _ (I.Cb.fresh (xZ _))⟩
end
def dn:List (TE×TE)->St->Hp->(List (V×V)->Hp->Prop)->Prop
 |[],_,H,Q=>Q [] H
 |(tk,tv)::r,σ,H,Q=>tk σ H λx H1=>tv σ H1 λy H2=>dn r σ H2 λps j=>Q ((x,y)::ps) j
abbrev VV:List (V×V)->List (Value×Value)->Prop:=Paired λp q=>RelV p.1 q.1/\RelV p.2 q.2
def uq(X:Cx)(pos:Pos)(keys:List (Option Expr))(values:List Expr)(j:List (TE×TE)):Prop:=
 ∀(pins:List (Addr×Obj))(s:Shared)(σ:St)(H:Hp)(Q:List (V×V)->Hp->Prop),Inv X pins σ H s->dn j σ H Q->
  wpAny (model X.prog X.w) X.A (evalPairs (pairTrees keys values X.env pos)) (λvs s'=>∃ps H',Inv X pins σ H' s'/\VV ps vs/\Q ps H') X.xe s
theorem nh{X:Cx}{pos:Pos}:uq X pos [] [] []:=λpins s σ H Q I h=>pairTrees_nil_walk ⟨[],H,I,.nil,h⟩
theorem mO{X:Cx}{pos:Pos}{k v:Expr}{ks:List (Option Expr)}{vs:List Expr}{tk tv:TE}{j:List (TE×TE)}(n:PE X k tk)(q:PE X v tv)(z:uq X pos ks vs j):
  uq X pos (some k::ks) (v::vs) ((tk,tv)::j):=λpins s σ H Q I h=>
 pairTrees_cons_walk (Bw (n pins s σ H _ I h) λu B⟨x,H1,J,L,M⟩=>Bw (q pins B σ H1 _ J M) λw2 N⟨y,H2,O,U,Y⟩=>
  Bw (z pins N σ H2 _ O Y) λws s3⟨ps,H3,I3,rel,q3⟩=>⟨(x,y)::ps,H3,I3,.cons ⟨L,U⟩ rel,q3⟩)
def Uv(kvs more:List (Key×V)):List (Key×V):=more.foldl (λacc j=>putK acc j.1 j.2) kvs
theorem KV.merge:∀{more:List (Key×V)}{j:List (Key×Value)}{kvs:List (Key×V)}{vs:List (Key×Value)},KV more j->KV kvs vs->KV (Uv kvs more) (merged vs j):=by
 intro more j kvs vs r;unfold KV at r
 induction r generalizing kvs vs with
 |nil=>intro q;exact q
 | @cons p q ps qs h t n=>
  intro z;have e:KV (putK kvs p.1 p.2) (stored vs q.1 q.2):=by have:=z.put p.1 h.2;rw[<-h.1];exact this
  exact n e
theorem Nb:∀(more kvs:List (Key×V)),(Uv kvs more).length<=kvs.length+more.length
 |[],kvs=>by show kvs.length<=kvs.length+0;lia
 |p::r,kvs=>by have h1:=Nb r (putK kvs p.1 p.2);have h2:=K3 kvs p.1 p.2;show(Uv (putK kvs p.1 p.2) r).length<=_;rw[xg];lia
theorem UY{P:Program}{w:World}:∀{kvs:List (Key×V)}{n:List (Value×Value)},VV (kvs.map λz=>(kV z.1,z.2)) n->∃j,Carries (BQ P w) n j/\KV kvs j
 |[],_,r=>by rw[ABv]at r;cases r;exact⟨[],True.intro,.nil⟩
 |p::kvs,_,r=>by
  rw[yE]at r;cases r with
  | @cons a b as bs h t=>obtain⟨j,c,q⟩:=UY (P:=P) (w:=w) t;obtain⟨I,B⟩:=b;exact⟨(p.1,B)::j,⟨SQ h.1,rfl,c⟩,.cons ⟨rfl,h.2⟩ q⟩
def tU(j:List (TE×TE)):TE:=λσ H Q=>∀p,H p=none->dn j σ (upd H p (.dK [])) λps H2=>H2 p=some (.dK [])/\∃kvs:List (Key×V),ps=kvs.map (λn=>(kV n.1,n.2))/\kvs.length<=15/\Q (.ref p) (upd H2 p (.dK (Uv [] kvs)))
theorem nQ{X:Cx}{pos:Pos}{keys:List (Option Expr)}{values:List Expr}{j:List (TE×TE)}(h:uq X pos keys values j)(n:keys.all (·.isSome)=true)(M:keys.length=values.length)(N:keys≠[])
  (J:keys.length<=15):PE X (.Dict keys values pos) (tU j):=by
 intro pins s σ H Q I q;have O:=I.Cb.fresh (xZ s.heap.objs.size);have U:=I.laid (a:=s.heap.objs.size) (o:=.dK []) (h':=s.heap.push {cls:=.type "dict",data:=.dict #[]}) (t':=s.toks) (λ_ _ q=>xN _ q) (xZ _) (bQ s.heap I.big);refine wpAny_Dict_walk (knd:=BQ X.prog X.w) n M N J (Bw (h pins _ σ _ _ U (q _ O)) λws s2 Y=>?_);obtain⟨ps,H2,L,rel,e,kvs,ep,lk,q2⟩:=Y;subst ep;obtain⟨rs,c,rk⟩:=UY (P:=X.prog) (w:=X.w) rel;obtain⟨z,hd,aa,r0,dd⟩:=qC L.Cb e;cases r0;refine⟨rs,c,dd,λh' B hs=>⟨.ref s.heap.objs.size,_,?_,rfl,q2⟩⟩;have hz:(Uv [] kvs).length<=sizeLine:=by have h1:=Nb kvs [];rw[AB8]at h1;rw[AAL];lia
 have he:∃q,h'.get? s.heap.objs.size=some q:=let⟨q,_,_,hq,_⟩:=B;⟨q,hq⟩;exact Y8 L (by rw[e];exact True.intro) hs he (l8 hz hd (rk.merge .nil) B)
structure M2(X:Cx)(o:Expr)(m:Str)(apos:Pos)(e f:Expr)(cpos:Pos):Prop where
 base:attributeBase o m X.env (eval o X.env)=eval o X.env
 Wh:((backTo cpos (starEach [e,f] X.env)).all (λx=> !x.1) && (backToKw cpos (keywordEach [] X.env)).all (λx=>x.1.isSome)
  && decide (([e,f]:List Expr).length+([]:List Keyword).length+(if([]:List Keyword).isEmpty then 0 else 1)<30))=true
 line:(apos.endLine==cpos.line)=true
 trees:backTo cpos (starEach [e,f] X.env)=[(false,eval e X.env),(false,eval f X.env)]
def wj(H:Hp)(a:Addr):Prop:=(∃kvs,Rd H a (.dK kvs))\/∃kvs,Rd H a (.dT kvs)
theorem rp{X:Cx}{pins:List (Addr×Obj)}{σ:St}{H:Hp}{s:Shared}{a:Addr}(I:Inv X pins σ H s)(d:wj H a):
  s.TypeIs (.ref a) "dict"/\(∀b,Value.ref a=.ref b->∃j,s.heap.get? b=some j/\j.dict=none)/\(a==sysModules)=false:=by
 rcases d with⟨kvs,e⟩|⟨kvs,e⟩
 .obtain⟨_,hd,vs,_,n⟩:=VF I.Cb e;refine⟨n.typeIs,λb q=>?_,hd⟩;cases q;obtain⟨j,_,_,h1,h2,_⟩:=n;exact⟨j,h1,h2.2.1⟩
 .obtain⟨_,hd,xs,_,n⟩:=bq I.Cb e;refine⟨n.typeIs,λb q=>?_,hd⟩;cases q;obtain⟨j,_,_,h1,h2,_⟩:=n;exact⟨j,h1,h2.2.1⟩
section
variable{X:Cx}{pins:List (Addr×Obj)}{σ:St}{H:Hp}{s:Shared}{a:Addr}{y d:V}{u r:Value}{o:Option V}{A:Around}{E:Value->Shared->Prop}
theorem rL(J:A.units+1<cLine)(I:Inv X pins σ H s)(g:Qp H a y o)(q:RelV y u)(rd:RelV d r)(h:∀B s',Inv X pins σ H s'->RelV (o.getD d) B->Q B s'):
  wpAny (model X.prog X.w) A (call (.builtin "dict.get") [.ref a,u,r]) Q E s:=by
 rcases g with⟨kvs,k,e,n,l⟩|⟨kvs,k,b,e,n,L,l⟩
 .subst n;obtain⟨z,hd,vs,rel,j⟩:=VF I.Cb e;refine call_meetsIn zq j.typeIs AAx (AAn _ _ _) (meets_dict_get_default (BQ X.prog X.w) a (SQ q) hd r) ⟨_,j.mapOf,h _ _ (I.tok _) ?_⟩;rw[l];exact(rel.val k).getD rd
 .subst n;cases(show u=Value.ref b from q);obtain⟨z,hd,xs,rel,j⟩:=bq I.Cb e;refine call_meetsIn zq j.typeIs AAx (AAn _ _ _) (meetsH_dict_get_default (tupleKind (BQ X.prog X.w)) a b hd r) ⟨ABX J,k,xs,YB I.Cb L,j,h _ _ (I.tok _) ?_⟩;rw[l];exact(rel.val k).getD rd
end
inductive oV(ty tx:TE)(σ:St)(Q:VK)(x:V)(H1:Hp):Prop
 |mk (a) (_:x=.ref a) (_:wj H1 a) (_:ty σ H1 λy H2=>tx σ H2 λz H3=>∃o,Qp H3 a y o/\Q (o.getD z) H3)
def qk(td ty tx:TE):TE:=λσ H Q=>td σ H (oV ty tx σ Q)
section
variable{X:Cx}{o e f:Expr}{apos cpos:Pos}{td ty tx:TE}
theorem lB(q:X.A.units+1<cLine)(B:PE X o td)(J:PE X e ty)(L:PE X f tx)(m:M2 X o "get" apos e f cpos):PE X (.Call (.Attribute o "get" apos) [e,f] [] cpos) (qk td ty tx):=by
 intro pins s σ H Q I h;refine AAr m.base m.Wh m.line AB4 zq PySem.F.type_dict_get (Bw (B pins s σ H _ I h) λu M N=>?_);obtain⟨x,H1,n,O,a,ex,d,U⟩:=N;subst ex;obtain rfl:u=Value.ref a:=O;obtain⟨Y,t2,_⟩:=rp n d;refine⟨Y,t2,?_⟩;rw[m.trees];refine AAM rfl (ABD (AAG (Bw (J pins M σ H1 _ n U) λiv s2⟨y,H2,I2,ry,q2⟩=>
  AAG (Bw (L pins s2 σ H2 _ I2 q2) λfv s3⟨z,H3,I3,rz,ov,g,q3⟩=>ABh ?_))))
 exact rL q I3 g ry rz λw' s4 I4 j=>⟨_,H3,I4,j,q3⟩
end
section
variable{X:Cx}{pins:List (Addr×Obj)}{σ:St}{H:Hp}{s:Shared}{h':Heap}
theorem Inv.oO{t':Nat}{ch:List Addr}(I:Inv X pins σ H s)(k:∀b o,b∉ch->s.heap.get? b=some o->h'.get? b=some o)(B:∀b∈ch,Sy X pins H b):Inv X pins σ H {s with heap:=h',toks:=t'}:=by
 have J:∀b u,H b=some u->b∉ch:=λb u e z=>by have q:=(B b z).1;rw[q]at e;cases e
 refine I.step (g':=s.gens) (d':=s.drawn) (ch:=ch) (λb L=>⟨(B b L).2.2.2.1,(B b L).2.1,(B b L).2.2.2.2.1,(B b L).2.2.2.2.2⟩) (λb o _ _ j e _=>k b o j e) (λb o _ _ j e _=>⟨o.slots,k b o j e⟩)
  (λ_ _ _ _ n=>n) (λb o j e=>⟨o,k b o j e⟩) (λ_ _ e=>e) (λ_ _ _ e=>e) (λb ps e=>⟨#[],by rw[e];simp⟩) (λm M=>?_) (λb u e=>?_) I.bare
 .obtain⟨o,es,ep,N,r⟩:=M;exact⟨o,es,ep,k _ o (λz=>(B _ z).2.1 rfl) N,r⟩
 .refine(I.Cb b u e).RI (λc v j q=>k c v ?_ q) (λ_ q=>q) λ_ _ q=>q;rcases j with z|z
  .rw[z];exact J b u e
  .exact J c _ z
theorem Inv.MX{t':Nat}{ch:List Addr}{T:Addr}{N:HO}(I:Inv X pins σ H s)(k:∀b o,b∉ch->s.heap.get? b=some o->h'.get? b=some o)(J:∀b∈ch,Sy X pins H b)(O:s.heap.objs.size<=T)
  (new:CC X.prog X.w (upd H T N) h' T N):Inv X pins σ (upd H T N) {s with heap:=h',toks:=t'}:=by
 have L:H T=none:=I.Cb.fresh O;have M:∀b u,H b=some u->b∉ch:=λb u e z=>by have q:=(J b z).1;rw[q]at e;cases e
 refine I.step (g':=s.gens) (d':=s.drawn) (ch:=ch) (λb j=>⟨(J b j).2.2.2.1,(J b j).2.1,(J b j).2.2.2.2.1,(J b j).2.2.2.2.2⟩) (λb o _ _ B e _=>k b o B e) (λb o _ _ B e _=>⟨o.slots,k b o B e⟩)
  (λb o _ e n=>?_) (λb o B e=>⟨o,k b o B e⟩) (λb xs e=>?_) (λb o u e=>?_) (λb ps e=>⟨#[],?_⟩) (λm U=>?_) (λb u e=>?_) I.bare
 .rw[AG (x6 (yC (xj e) O))];exact n
 .rw[AG (AH e L)];exact e
 .rw[AG (AH e L)];exact e
 .rw[AG (AH e L),e];simp
 .obtain⟨o,es,ep,Y,r⟩:=U;exact⟨o,es,ep,k _ o (λz=>(J _ z).2.1 rfl) Y,r⟩
 .by_cases j:b=T
  .subst j;rw[AB]at e;cases e;exact new
  .rw[AG j]at e;refine(I.Cb b u e).RI (λc v B q=>k c v ?_ q) (λc q=>by rw[AG (AH q L)];exact q) λc xs q=>by rw[AG (AH q L)];exact q
   rcases B with z|z
   .rw[z];exact M b u e
   .exact M c _ z
theorem Inv.lock(I:Inv X pins σ H s)(h:H d=some u)(B:pO (some u)):∃j,Inv X pins σ (upd H d (.frz j u)) s:=by
 have x:=I.Cb d u h;have ex:∃j,s.heap.get? d=some j:=by
  cases u with
  |lst xs=>obtain⟨_,_,_,_,e⟩:=x;exact⟨_,e⟩
  |dK kvs=>obtain⟨_,_,_,_,o,_,_,e,_⟩:=x;exact⟨o,e⟩
  |dT kvs=>obtain⟨_,_,_,_,o,_,_,e,_⟩:=x;exact⟨o,e⟩
  |set S n=>obtain⟨o,_,_,_,e,_⟩:=x;exact⟨o,e⟩
  |ins C dx fs=>obtain⟨_,_,_,e,_⟩:=x;exact⟨_,e⟩
  |ext J=>obtain⟨_,⟨_,e⟩,_⟩:=x;exact⟨_,e⟩
  |_=>exact False.elim B
 obtain⟨j,e⟩:=ex;have new:CC X.prog X.w (upd H d (.frz j u)) s.heap d (.frz j u):=by
  refine⟨e,x.RI (λb v _ q=>q) (λb q=>?_) λb xs q=>?_⟩
  .rw[AG (λz=>by rw[z,h]at q;cases q;exact B)];exact q
  .rw[AG (λz=>by rw[z,h]at q;cases q;exact B)];exact q
 exact⟨j,I.write (x:=d) (e:=d) (t':=s.toks) (h':=s.heap) (by rw[h];exact B) (.inl rfl) (λb v _ q=>q) ⟨j,e⟩ new⟩
theorem Inv.cg(I:Inv X pins σ H s)(h:H d=some u)(n:pO (some u)):∀o' j,X.rh d≠some (.frz o' j):=λo' j e=>by have q:=I.base.ZO d o' j e;rw[h]at q;cases q;exact n
theorem Inv.unlock(I:Inv X pins σ H s)(h:H d=some (.frz U u))(N:∀o' B,X.rh d≠some (.frz o' B)):Inv X pins σ (upd H d u) s:=by
 have j:∀b o,H b=some o->(∀o' B,o≠ .frz o' B)->b≠d:=λb o e J z=>by rw[z,h]at e;cases e;exact J _ _ rfl
 have neN:∀b,H b=none->b≠d:=λb e z=>by rw[z,h]at e;cases e
 refine⟨I.ok,I.os,I.bare,⟨I.base.keep,I.base.slot,λb o e n M=>?_,I.base.there,λb xs e=>?_,λb o x e=>?_,λb ps e=>?_⟩,I.loc,I.cell,?_,λx c e=>?_,λp O=>?_,λb o e=>?_,I.len⟩
 .rw[AG (neN b (I.base.free b o e n M))];exact I.base.free b o e n M
 .have q:=I.base.eD b xs e;rw[AG (j b _ q (λ_ _ z=>nomatch z))];exact q
 .have q:=I.base.ZO b o x e;rw[AG (λz=>by rw[z]at e;exact N _ _ e)];exact q
 .obtain⟨m,q⟩:=I.base.dj b ps e;exact⟨m,by rw[AG (j b _ q (λ_ _ z=>nomatch z))];exact q⟩
 .rw[AG (neN _ I.free)];exact I.free
 .rw[AG (neN c (I.Hr x c e))];exact I.Hr x c e
 .obtain⟨e,n,r⟩:=I.pin p O;exact⟨e,by rw[AG (neN _ n)];exact n,r⟩
 .by_cases L:b=d
  .rw[L,AB]at e;cases e;rw[L];obtain⟨_,x⟩:=I.Cb d _ h;exact x.RI (λc v _ q=>q) (λc q=>by rw[AG (j c _ q (λ_ _ z=>nomatch z))];exact q) λc xs q=>by rw[AG (j c _ q (λ_ _ z=>nomatch z))];exact q
  .rw[AG L]at e;exact(I.Cb b o e).RI (λc v _ q=>q) (λc q=>by rw[AG (j c _ q (λ_ _ z=>nomatch z))];exact q) λc xs q=>by rw[AG (j c _ q (λ_ _ z=>nomatch z))];exact q
end
def ui(t:TS):TS:=λD σ H=>∃d u,H d=some u/\pO (some u)/\∀n,t ⟨λj H'=>H' d=some (.frz n u)/\D.nx j (upd H' d u),λv H'=>H' d=some (.frz n u)/\D.rt v (upd H' d u),λj H'=>H' d=some (.frz n u)/\D.bk j (upd H' d u),λj H'=>H' d=some (.frz n u)/\D.ct j (upd H' d u)⟩ σ (upd H d (.frz n u))
def qH(t:TE):TE:=λσ H Q=>∃d u,H d=some u/\pO (some u)/\∀j,t σ (upd H d (.frz j u)) λv H'=>H' d=some (.frz j u)/\Q v (upd H' d u)
section
variable{X:Cx}
theorem og{st:Stmt}{t:TS}(h:PS X st t):PS X st (ui t):=by
 intro pins s σ H D I B;obtain⟨d,u,hd,z,B⟩:=B;obtain⟨J,L⟩:=I.lock hd z;refine Bw (h pins s σ _ _ L (B J)) λf M q=>?_;cases f with
 |next=>obtain⟨j,H',n,e,q⟩:=q;exact⟨j,_,n.unlock e (I.cg hd z),q⟩
 |brk=>obtain⟨j,H',n,e,q⟩:=q;exact⟨j,_,n.unlock e (I.cg hd z),q⟩
 |cont=>obtain⟨j,H',n,e,q⟩:=q;exact⟨j,_,n.unlock e (I.cg hd z),q⟩
 |ret v=>obtain⟨x,j,H',n,r,e,q⟩:=q;exact⟨x,j,_,n.unlock e (I.cg hd z),r,q⟩
theorem Yi(h:PE X e t):PE X e (qH t):=by intro pins s σ H Q I j;obtain⟨d,u,hd,n,j⟩:=j;obtain⟨z,B⟩:=I.lock hd n;refine Bw (h pins s σ _ _ B (j z)) λv M⟨x,H1,J,r,L,q⟩=>?_;exact⟨x,_,J.unlock L (I.cg hd n),r,q⟩
theorem rH{tg:Expr}{pins:List (Addr×Obj)}{σ:St}{H:Hp}{s:Shared}{R:It->Hp->Prop}{J:It}{j:Nat->Heap->Prop}{tk:Nat}(I:Inv X pins σ H s)(o:Obj)
  (T:Turn X.prog X.w X.K tg J [s.heap.objs.size] s.heap.objs.size j) (st:j 0 (s.heap.push o)) (q:R J H):uo X pins σ tg R (.ref s.heap.objs.size) {s with heap:=s.heap.push o,toks:=tk}:=by
 refine⟨s.heap.objs.size,[s.heap.objs.size],j,J,H,rfl,I.kept λb z e=>xN _ e,T,st,λb n=>?_,q⟩;have e:b=s.heap.objs.size:=by simpa using n
 subst e;exact I.Zo (xZ _) (I.Cb.fresh (xZ _))
end
theorem eS{κ:Type}{kvs:List (κ×V)}{vs:List (κ×Value)}(h:KV kvs vs):∀{i:Nat}{k:κ}{v:V},kvs[i]?=some (k,v)->∃u,vs[i]?=some (k,u)/\RelV v u:=by
 unfold KV at h
 induction h with
 |nil=>intro i k v e;simp at e
 | @cons a b l₁ l₂ r t n=>
  intro i k v e;cases i with
  |zero=>simp only[AB5,Option.some.injEq]at e;subst e;refine⟨b.2,?_,r.2⟩;simp only[AB5];exact x3 some (Prod.ext r.1.symm rfl)
  |succ j=>simp only[List.getElem?_cons_succ]at e⊢;exact n e
theorem lz(h:Pf k u=true):RelV (kV k) u:=by
 rcases CL h with⟨i,t,rfl,rfl⟩|⟨x,t,rfl,rfl⟩
 .exact⟨t,rfl⟩
 .exact⟨t,rfl⟩
section
variable{X:Cx}{pins:List (Addr×Obj)}{σ:St}{H:Hp}{s:Shared}{d:Addr}{o:Obj}
theorem Inv.mI(I:Inv X pins σ H s)(h:H d=some (.frz o (.dK kvs))):
  (d==sysModules)=false/\s.heap.get? d=some o/\o.ExactDict/\∃(es:Array DictEntry)(ep:Nat)(vs:List (Key×Value)),o.data=.dict es ep/\es.size=kvs.length/\KV kvs vs/\s.heap.DictAt (BQ X.prog X.w) d vs ep:=by
 obtain⟨hd,z,J,vs,n,o',es,ep,q,B,j,r⟩:=I.Cb d _ h;rw[hd]at q;cases q;refine⟨J,hd,B,es,ep,vs,j,?_,n,o,es,hd,B,j,r⟩;have L:=r.2.1.length;have M:kvs.length=vs.length:=zF n;rw[zM]at L;lia
end
noncomputable def wm(d:Addr)(o:Obj)(kvs:List (Key×V)):It:=
 ⟨λi H=>H d=some (.frz o (.dK kvs))/\i<kvs.length,λi H x H'=>H'=H/\∃k,kvs[i]?=some (k,x),λi H=>H d=some (.frz o (.dK kvs))/\kvs.length<=i⟩
def pR(d:Addr)(o:Obj)(kvs:List (Key×V)):It:=
 ⟨λi H=>H d=some (.frz o (.dK kvs))/\i<kvs.length,λi H x H'=>∃T k v,kvs[i]?=some (k,v)/\x=.ref T/\H T=none/\H'=upd H T (.tup [kV k,v]),λi H=>H d=some (.frz o (.dK kvs))/\kvs.length<=i⟩
theorem TN{o:Obj}{es es':Array DictEntry}{ep j:Nat}(h:o.data=.dict es ep)(h':o.data=.dict es' j):es'=es/\j=ep:=by rw[h]at h';cases h';exact⟨rfl,rfl⟩
section
variable{P:Program}{w:World}{K:PySem.W.Frag}{tg:Expr}{d:Addr}{o:Obj}{es:Array DictEntry}{ep:Nat}
theorem sh{kvs:List (Key×V)}(j:Addr)(B:o.data=.dict es ep):Turn P w K tg (wm d o kvs) [j] j (λi h=>h.IsValIter j d i kvs.length ep) where
 mem:=by simp
 obj:=λi h st b n=>by
  have e:b=j:=by simpa using n
  subst e;obtain⟨M,e,c,Y⟩:=st;exact⟨M,e,λv z=>by rw[Y]at z;cases z⟩
 keep:=λi h h' st k=>st.at λM e=>k j (by simp) M e
 item:=by intro X hP hw hK hc i pins s σ H E I N st hg;subst hP hw hK;obtain⟨hd,hi⟩:=hg;obtain⟨f0,f1,f2,f3,f4,f5⟩:=N j (by simp);obtain⟨hs,aa,hx,es',ab,vs,q,hsz,O,hm⟩:=I.mI hd;obtain⟨rfl,rfl⟩:=TN B q;obtain⟨⟨k,v⟩,J⟩:∃p,kvs[i]?=some p:=⟨kvs[i],xW hi⟩;obtain⟨u,hu,ru⟩:=eS O J;have U:kvs.length=vs.length:=zF O;rw[U]at st;refine wpAny_pyNext_values_item st hm hu λh' L sb=>?_;have I1:Inv X pins σ H {s with heap:=h'}:=I.turned (t':=s.toks) (λb ob n e=>(sb.2 b n).trans e) f0 f1 f3 f4 f5;obtain⟨M,e,c,Y⟩:=id L;refine⟨u,rfl,gb (s:={s with heap:=h'}) e c Y Dc ⟨v,H,I1,ru,⟨rfl,k,J⟩,?_,λb n=>(N b n).1⟩⟩;show h'.IsValIter j d (i+1) kvs.length _;rw[U];exact L
 done:=by intro X hP hw hK hc i pins s σ H E I N st hg;subst hP hw hK;obtain⟨hd,hi⟩:=hg;obtain⟨f0,f1,f2,f3,f4,f5⟩:=N j (by simp);obtain⟨hs,aa,hx,es',ab,vs,q,hsz,O,hm⟩:=I.mI hd;obtain⟨rfl,rfl⟩:=TN B q;have U:kvs.length=vs.length:=zF O;rw[U]at st;exact wpAny_pyNext_values_end (I.ok.hd hc) st hm (yc Om) λh' eb=>⟨rfl,I.turned (t':=s.toks) (λb ob n e=>eb b ob n e) f0 f1 f3 f4 f5⟩
 self:=λA i s Q E st h=>wpAny_pyIter_valiter st h
theorem fy{kvs:List (Key×V)}{M:List Expr}{kk:Nat}{tpos:Pos}(j:Addr)(N:o.data=.dict es ep):
  Turn P w K (.Tuple M kk tpos) (pR d o kvs) [j] j (λi h=>∃ok J,IsItemIter h j d i kvs.length ep ok J) where
 mem:=by simp
 obj:=λi h st b n=>by
  have e:b=j:=by simpa using n
  subst e;obtain⟨ok,J,e⟩:=st;exact⟨_,e,λv z=>nomatch z⟩
 keep:=λi h h' st k=>let⟨ok,J,e⟩:=st;⟨ok,J,k j (by simp) _ e⟩
 item:=by
  intro X hP hw hK hc i pins s σ H E I hf st hg;subst hP hw hK;obtain⟨hd,hi⟩:=hg;obtain⟨hs,aa,hx,es',ab,vs,q,hsz,kv,hm⟩:=I.mI hd;obtain⟨rfl,rfl⟩:=TN N q;obtain⟨⟨k,v⟩,O⟩:∃p,kvs[i]?=some p:=⟨kvs[i],xW hi⟩;obtain⟨u,hu,ru⟩:=eS kv O;have hl:kvs.length=vs.length:=zF kv;obtain⟨ok,J,L⟩:=st;rw[hl]at L;have U:j<s.heap.objs.size:=xj L;refine wpAny_pyNext_items_item L hm hu λkey h' Y ho hT hz hk=>?_;refine⟨_,rfl,wpAny_letOwnedTupleGo_items (s:={s with heap:=h'}) ho λB ae sb=>?_⟩;have af:B.get? s.heap.objs.size=some {cls:=.type "tuple",data:=.seq #[key,u]}:=(sb.2 _ (yY U)).trans hT;have new:CC X.prog X.w (upd H s.heap.objs.size (.tup [kV k,v])) B s.heap.objs.size (.tup [kV k,v]):=
   ⟨by show 2<=sizeLine;decide,[key,u],.cons (lz (show Pf k key=true from Y)) (.cons ru .nil),⟨_,af,rfl,_,rfl⟩⟩
  have I1:Inv X pins σ (upd H s.heap.objs.size (.tup [kV k,v])) {s with heap:=B}:=
   I.MX (t':=s.toks) (ch:=[j]) (λb ob n e=>(sb.2 b (by simpa using n)).trans (hk b ob (by simpa using n) e)) hf (xZ _) new
  refine⟨.ref s.heap.objs.size,_,I1,rfl,⟨_,k,v,O,rfl,I.Cb.fresh (xZ _),rfl⟩,⟨key,u,?_⟩,λb n=>?_⟩
  .rw[hl];exact ae
  .have e:b=j:=by simpa using n
   rw[e,AG (x6 U)];exact(hf j (by simp)).1
 done:=by intro X hP hw hK hc i pins s σ H E I hf st hg;subst hP hw hK;obtain⟨hd,hi⟩:=hg;obtain⟨f0,f1,f2,f3,f4,f5⟩:=hf j (by simp);obtain⟨hs,aa,hx,es',ab,vs,q,hsz,kv,hm⟩:=I.mI hd;obtain⟨rfl,rfl⟩:=TN N q;have hl:kvs.length=vs.length:=zF kv;obtain⟨ok,J,L⟩:=st;rw[hl]at L;exact wpAny_pyNext_items_end (I.ok.hd hc) L hm (yc Om) λh' eb=>⟨rfl,I.turned (t':=s.toks) (λb ob n e=>eb b ob n e) f0 f1 f3 f4 f5⟩
 self:=λA i s Q E st h=>let⟨_,_,e⟩:=st;PySem.W.kcp_self e h
end
inductive oB(R:It->Hp->Prop)(x:V)(H1:Hp):Prop
 |mk (d o kvs) (_:x=.ref d) (_:H1 d=some (.frz o (.dK kvs))) (_:R (pR d o kvs) H1)
def qM(td:TE):TI:=λσ H R=>td σ H (oB R)
section
variable{X:Cx}{tg e:Expr}{td:TE}{apos cpos:Pos}
theorem Pt(N:PE X e td)(n:attributeBase e "items" X.env (eval e X.env)=eval e X.env:=by rfl)(z:(apos.endLine==cpos.line)=true:=by rfl):
  PI X (.Tuple B O tpos) (.Call (.Attribute e "items" apos) [] [] cpos) (qM td):=by
 intro pins s σ H R I h;refine AAr (T:="dict") (id:="dict.items") n rfl z F.plainAttrs_dict F.slot_dict_items F.type_dict_items (Bw (N pins s σ H _ I h) λu j U=>?_);obtain⟨x,H1,M,Y,d,o,kvs,ex,hd,q⟩:=U;subst ex;obtain rfl:u=Value.ref d:=Y;obtain⟨hs,aa,hx,es,ep,vs,L,hsz,kv,J⟩:=M.mI hd;have hl:kvs.length=vs.length:=zF kv;refine⟨J.dictOf.typeIs,J.dictOf.mapOf.noDict,?_⟩;have I2:Inv X pins σ H1 {j with heap:=j.heap.push {cls:=.type "dict_items",data:=.fields #[.ref d]}}:=M.kept (t':=j.toks) λb ob q=>xN _ q;have fin:wpAny (model X.prog X.w) X.A (pyIter (.ref j.heap.objs.size)) (uo X pins σ (.Tuple B O tpos) R) X.xe {j with heap:=j.heap.push {cls:=.type "dict_items",data:=.fields #[.ref d]}}:=by refine wpAny_pyIter_items (d:=d) (knd:=BQ X.prog X.w) ⟨_,xf _ rfl,rfl,rfl⟩ (J.push _) (rH (tk:=j.toks) I2 _ (fy _ L) ⟨.none,.none,?_⟩ q);rw[hl];exact xf _ rfl
 show wpAny _ _ (callWith cpos (.builtin "dict.items") [.ref d] [] []) _ X.xe j;exact method_meetsIn F.slot_dict_items F.entry_dict_items rfl (ABP ⟨rfl,J.dictOf.typeIs,F.args_dict_items_1 _,_,meets_dict_items (BQ X.prog X.w) d hs,⟨vs,J.dictOf⟩,fin⟩)
end
def tW(K:PySem.W.Frag)(a:Addr):It:=
 ⟨λi H=>∃(xs:List V)(x:V),Ah K H a xs/\xs[i]?=some x,λi H v H'=>∃T x,v=.ref T/\H T=none/\H'=upd H T (.tup [.int (i:Nat),x])/\∀xs,Ah K H a xs->xs[i]?=some x,λi H=>∃xs:List V,Ah K H a xs/\xs.length<=i⟩
theorem j5{P:Program}{w:World}{K:PySem.W.Frag}{M:List Expr}{kk:Nat}{tpos:Pos}(a e n:Addr):
  Turn P w K (.Tuple M kk tpos) (tW K a) [e,n] e (λi h=>(∃old,IsEnum h e n ((i:Nat):Int) old)/\h.IsListIter n a i/\e≠n) where
 mem:=by simp
 obj:=λi h st b B=>by
  obtain⟨⟨old,J⟩,⟨o,ho,hc,hd⟩,_⟩:=st;have e':b=e\/b=n:=by simpa using B
  rcases e' with z|z
  .rw[z];exact⟨_,J,λv q=>nomatch q⟩
  .rw[z];exact⟨o,ho,λv q=>by rw[hd]at q;cases q⟩
 keep:=λi h h' st k=>let⟨⟨old,J⟩,hi,j⟩:=st;⟨⟨old,k e (by simp) _ J⟩,hi.at λo q=>k n (by simp) o q,j⟩
 item:=by
  intro X hP hw hK hc i pins s σ H E I U st hg;subst hP hw hK;obtain⟨⟨old,J⟩,hit,j⟩:=st;obtain⟨xs,x,Y,hx⟩:=hg;obtain⟨its,rv,p,hz⟩:=I.list Y;obtain⟨u,hu,ru⟩:=rv.get hx;have N:e<s.heap.objs.size:=xj J;have aa:n<s.heap.objs.size:=by obtain⟨_,q,_⟩:=hit;exact xj q
  refine wpAny_pyNext_enum_item J hit p.isList (x:=u) (by simpa using hu) j λh' ho O hT hsz hk=>?_;refine⟨_,rfl,wpAny_letOwnedTupleGo_enum (s:={s with heap:=h',toks:=s.toks+1}) ho λL ab sb=>?_⟩;have ae:L.get? s.heap.objs.size=some {cls:=.type "tuple",data:=.seq #[.int i s.toks,u]}:=(sb.2 _ (yY N)).trans hT;have new:CC X.prog X.w (upd H s.heap.objs.size (.tup [.int (i:Nat),x])) L s.heap.objs.size (.tup [.int (i:Nat),x]):=
   ⟨by show 2<=sizeLine;decide,[.int i s.toks,u],.cons ⟨_,rfl⟩ (.cons ru .nil),⟨_,ae,rfl,_,rfl⟩⟩
  have I1:Inv X pins σ (upd H s.heap.objs.size (.tup [.int (i:Nat),x])) {s with heap:=L,toks:=s.toks+1}:=
   I.MX (ch:=[e,n]) (λb ob B q=>(sb.2 b (λz=>B (by simp[z]))).trans (hk b ob (λz=>B (by simp[z])) (λz=>B (by simp[z])) q)) U (xZ _) new
  refine⟨.ref s.heap.objs.size,_,I1,rfl,⟨_,x,rfl,I.Cb.fresh (xZ _),rfl,λys hy=>by rw[I.VA hy Y];exact hx⟩,⟨⟨u,?_⟩,O.at λo q=>(sb.2 n (x8 j)).trans q,j⟩,λb B=>?_⟩
  .have e1:((i+1:Nat):Int)=(i:Int)+1:=by lia
   rw[e1];exact ab
  .have af:b<s.heap.objs.size:=by
    have e':b=e\/b=n:=by simpa using B
    rcases e' with z|z
    .rw[z];exact N
    .rw[z];exact aa
   rw[AG (x6 af)];exact(U b B).1
 done:=by intro X hP hw hK hc i pins s σ H E I U st hg;subst hP hw hK;obtain⟨⟨old,J⟩,hit,j⟩:=st;obtain⟨xs,Y,hx⟩:=hg;obtain⟨its,rv,p,hz⟩:=I.list Y;obtain⟨f0,f1,f2,f3,f4,f5⟩:=U n (by simp);have hl:=rv.length;exact wpAny_pyNext_enum_end (I.ok.hd hc) J hit p.isList (by simp;lia) λh' eb=>⟨rfl,I.turned (t':=s.toks) (λb o B q=>eb b o B q) f0 f1 f3 f4 f5⟩
 self:=λA i s Q E st h=>let⟨⟨_,J⟩,_⟩:=st;AAs J h
inductive qm(K:PySem.W.Frag)(R:It->Hp->Prop)(vs:List V)(H1:Hp):Prop
 |mk (a xs) (_:vs=[.ref a]) (_:Ah K H1 a xs) (_:R (tW K a) H1)
def so(K:PySem.W.Frag)(ta:TA):TI:=λσ H R=>ta σ H (qm K R)
theorem PN{X:Cx}{e:Expr}{ta:TA}{p pos tpos:Pos}{n:List Expr}{M:Nat}(N:Gl X "enumerate")(O:X.mg "enumerate"=none)(U:PA X [e] ta)(Y:starEach [e] X.env=[(false,eval e X.env)]:=by rfl):
  PI X (.Tuple n M tpos) (.Call (.Name "enumerate" p) [e] [] pos) (so X.K ta):=by
 intro pins s σ H R I h;refine Call_ (Lv I N O boot_enumerate (yz (Bw (U pos pins s σ H _ I h) λus j⟨vs,H1,J,r1,q1⟩=>?_) Y rfl));obtain⟨a,xs,ex,hq,q⟩:=q1;subst ex;cases r1 with
 |cons r rr=>
  cases rr;cases r;obtain⟨its,rv,p',hz⟩:=J.list hq;refine call_enumerate_list p'.isList λh' L hit hsz hk=>AAs L ?_;have I2:Inv X pins σ H1 {j with heap:=h'}:=J.kept (t':=j.toks) hk;refine⟨j.heap.objs.size+1,[j.heap.objs.size+1,j.heap.objs.size],_,_,H1,rfl,I2,j5 a (j.heap.objs.size+1) j.heap.objs.size,⟨⟨.none,L⟩,hit,Nat.succ_ne_self _⟩,λb hb=>?_,q⟩;have e':b=j.heap.objs.size+1\/b=j.heap.objs.size:=by simpa using hb
  have B:j.heap.objs.size<=b:=by
   rcases e' with z|z
   .rw[z];exact zi _ _
   .rw[z];exact xZ _
  exact J.Zo B (J.Cb.fresh B)
theorem jx:bootBuiltins "zip"=some (.type "zip"):=by decide+kernel
end L2
section
namespace sR
open PySem PyProof.Rows
theorem Sf(m:Nat):∀n:Nat,(m ^^^ n)+2* (m &&& n)=m+n:=by
 induction m using Nat.strongRecOn with
 |_ m q=>
  intro n;by_cases z:m=0
  .subst z;simp
  .have j:=q (m / 2) Om (n / 2);rw[<-Nat.xor_div_two,<-Nat.and_div_two]at j;have B:= @Nat.xor_mod_two_eq_one m n;have I:= @Nat.and_mod_two_eq_one m n;lia
theorem i6(j:0<=x)(n:0<=y):Builtin.bitXor x y=((x.toNat ^^^ y.toNat:Nat):Int):=by have e:=Sf x.toNat y.toNat;rw[bitXor_and,bitAnd_pp j n];lia
theorem lh(j:0<=x)(n:0<=y):Builtin.bitOr x y=((x.toNat||| y.toNat:Nat):Int):=by have e:=nat_or_add_and x.toNat y.toNat;rw[bitOr_and,bitAnd_pp j n];lia
end sR
namespace TL
open PySem PySem.Builtin PySem.Builtin.Str PySem.StrLaws
noncomputable abbrev tl(x:Str):List Nat:=x.cps.toList
end TL
end
namespace L2
open PySem PySem.Spec PyProof.Rows
noncomputable def inClass(s:Stmt)(j:Nat):Stmt:=match s with
 | .ClassDef _ _ _ body _ _ _ _ _ _ _=>body.getD j (.Pass ⟨0,0,0,0⟩)
 |_=>.Pass ⟨0,0,0,0⟩
noncomputable def Me(s:Stmt):Arguments:=match s with
 | .FunctionDef _ a _ _ _ _ _ _ _ _=>a
 |_=>{posonlyargs:=[],args:=[],vararg:=none,kwonlyargs:=[],kw_defaults:=[],kwarg:=none,defaults:=[]}
noncomputable def Jn(s:Stmt):List Stmt:=match s with
 | .FunctionDef _ _ b _ _ _ _ _ _ _=>b
 |_=>[]
noncomputable def A4(s:Stmt):Scope:=match s with
 | .FunctionDef _ _ _ _ _ _ j _ _ _=>j
 |_=>{kind:=.function,names:=[],isGenerator:=false,isCoroutine:=false}
abbrev kC:j9:=λ_ _ _ _ _ _=>False
abbrev E0:XK:=λ_ _ _=>False
theorem LK{X:Cx}:Passes kC X E0:=λ_ _ _ _ _ _ _ h=>h.elim
structure CH(K:PySem.W.Frag)(x qual:Str)(st:Stmt)(f:Addr)(fd:FuncData):Prop where
 ex:∃(oc:Value)(od:Option Addr)(kV doc pm:Value)(an:Option Addr)(cdv ct:Value)(osl:Array (Option Value)),
  fd=PySem.W.fnOf x qual (Me st) (Jn st) (A4 st) .none kV doc pm an cdv ct/\K.lookup f=some ⟨oc,od,.func fd,osl⟩/\PySem.W.codeIn K cdv qual=true
 kp:PySem.W.keepIn K (.ref f)=true
section
variable{P:Program}{w:World}{K:PySem.W.Frag}{mg:Str->Option Value}{base:Heap}
theorem CH.ok{x qual:Str}{st:Stmt}{f:Addr}{fd:FuncData}{N ps:List Str}{k:Nat}{sp:Sp}(F:CH K x qual st f fd)(S:Pc N ps (A4 st))(len:∀vs H Q E,sp vs H Q E->vs.length=ps.length)
  (z:∀(n:Value)(A:Around)(j:List Env)(s:Shared)(H:Hp)(vs:List V)(Q:VK)(E:XK),DI k (A.deeper (envOfC qual (A4 st) s.heap.objs.size f n))->sp vs H Q E->
   ∃t,gX (A0 kC P w K mg base N qual (A4 st) f n A j s H E).Ck (Jn st) t/\t {nx:=λ_ H'=>Q .non H',rt:=Q} (start N vs) H):IV P w K mg base kC (k+1) f fd ps sp:=by
 obtain⟨O,U,kV,J,pm,Y,n,ct,L,rfl,lk,B⟩:=F.ex;refine uK lk B S len λA j s H vs Q E M I=>?_;obtain⟨t,h,q⟩:=z n A j s H vs Q E M I;exact⟨t,h.Ck,q⟩
theorem CH.binds{x qual:Str}{st:Stmt}{f:Addr}{fd:FuncData}{ps:List Str}(F:CH K x qual st f fd)
  (h:∀(kV j pm:Value)(q:Option Addr)(n z:Value)(us:List Value),us.length=ps.length->bindArgs (PySem.W.fnOf x qual (Me st) (Jn st) (A4 st) .none kV j pm q n z) ⟨us,[]⟩=pure (ps.zip us)):Binds K fd ps []:=by
 obtain⟨J,L,kV,j,pm,q,n,z,B,rfl,lk,I⟩:=F.ex;exact .all (h kV j pm q n z)
theorem AV{x qual:Str}{st:Stmt}{f:Addr}{I:Value}{J z:Option Addr}{q:Array (Option Value)}{kV n pm j B:Value}(l:K.lookup f=some ⟨I,J,.func (PySem.W.fnOf x qual (Me st) (Jn st) (A4 st) .none kV n pm z j B),q⟩)
  (c:PySem.W.codeIn K j qual=true) (k:PySem.W.keepIn K (.ref f)=true):CH K x qual st f (PySem.W.fnOf x qual (Me st) (Jn st) (A4 st) .none kV n pm z j B):=⟨⟨I,J,kV,n,pm,z,j,B,q,rfl,l,c⟩,k⟩
end
theorem gx(j:DI k A):A.units+1<cLine:=AAj (Nat.add_le_add_left (by decide:1<=64) _) j.units
section
variable{X:Cx}
theorem pv(i:Nat)(n:X.N[i]?=some x:=by rfl)(q:uA X.env.scope x:=by first|exact Or.inl rfl|exact Or.inr (Or.inl rfl)|exact Or.inr (Or.inr rfl))(hd:(x==("__debug__":Str))=false:=by decide)
  (j:(x==("__classdict__":Str))=false:=by decide):PE X (.Name x pos) (tF i):=rP n q hd j
end
theorem ED{A B:Prop}(h:B):if false=true then A else B:=by rw[xJ xy];exact h
theorem EG{A B:Prop}(h:A):if true=true then A else B:=by rw[xQ rfl];exact h
theorem Fi{c A B:Prop} [Decidable c](h1:c->A)(h2:¬c->B):if c then A else B:=by
 by_cases h:c
 .rw[xQ h];exact h1 h
 .rw[xJ h];exact h2 h
def AN(H H':Hp):Prop:=∀b o,H b=some o->H' b=some o
theorem AN.refl(H:Hp):AN H H:=λ_ _ h=>h
theorem AN.trans(a:AN H H1)(b:AN H1 H2):AN H H2:=λc o h=>b c o (a c o h)
theorem AN.free(e:AN H H')(h:H' l=Option.none):H l=Option.none:=by
 cases q:H l with
 |none=>rfl
 |some o=>rw[e l o q]at h;cases h
theorem AN.seq{K:PySem.W.Frag}{H H':Hp}{a:Addr}{xs:List V}(e:AN H H')(h:Ah K H a xs):Ah K H' a xs:=by
 rcases h with(h|⟨o,h⟩)|h
 .exact .inl (.inl (e _ _ h))
 .exact .inl (.inr ⟨o,e _ _ h⟩)
 .exact .inr h
theorem at_of{xs:List V}{z:Int}{j:Nat}{v:V}(e:z=(j:Int))(h:xs[j]?=some v):ji xs z=some v:=by rw[e];exact gz h
end L2
end
section
set_option Elab.async false
set_option linter.all false
set_option maxRecDepth 100000
set_option maxHeartbeats 2000000
namespace L2
open PySem PySem.Spec PyProof.Rows
open PySem.W (WData Codec OpenSpec Well WellAll ReadsW ReadsAllW)
mutual
inductive Dw(K:PySem.W.Frag)(H:Hp):V->WData->Prop
 |non:Dw K H .non .none
 |bl (b:Bool):Dw K H (.bl b) (.bool b)
 |int (i:Int):Dw K H (.int i) (.int i)
 |str (x:Str):Dw K H (.str x) (.str x)
 |byt (b:Array UInt8):Dw K H (.byt b) (.bytes b.toList)
 |lst {a:Addr} {xs:List V} {ds:List WData}:Ah K H a xs->Ia K H xs ds->Dw K H (.ref a) (.list ds)
 |tup {a:Addr} {xs:List V} {ds:List WData}:Cd K H a xs->Ia K H xs ds->Dw K H (.ref a) (.tuple ds)
inductive Ia(K:PySem.W.Frag)(H:Hp):List V->List WData->Prop
 |nil:Ia K H [] []
 |cons {v:V} {vs:List V} {d:WData} {ds:List WData}:Dw K H v d->Ia K H vs ds->Ia K H (v::vs) (d::ds)
end
theorem gU{K:PySem.W.Frag}{H:Hp}:∀ns:List Int,Ia K H (ns.map V.int) (ns.map WData.int)
 |[]=>.nil
 |n::r=>.cons (.int n) (gU r)
theorem gG{K:PySem.W.Frag}{H:Hp}:∀(ns:List Int)(xs:List V),Ia K H xs (ns.map WData.int)->xs=ns.map V.int
 |[],xs,h=>by cases h;rfl
 |n::r,xs,h=>by
  cases h with
  |cons h1 h2=>cases h1;rw[gG r _ h2]<;> rfl
section
variable{P:Program}{w:World}{K:PySem.W.Frag}{H:Hp}{h:Heap}{R:PySem.W.WRecords}{cl:Str->Option Addr}
theorem rY{a:Addr}{xs:List V}(j:Kw P w H h)(B:K.In h)(q:Ah K H a xs):∃(its:List Value)(o:Obj)(n:Nat),Vals xs its/\h.get? a=some o/\o.cls=.type "list"/\o.data=.seq its.toArray n:=by
 rcases q with q|⟨o,its,n,e,I,_,hd,_,z⟩
 .obtain⟨_,its,n,z,e⟩:=(show CC P w H h a (.lst xs)from q.ok j);exact⟨its,_,n,z,e,rfl,rfl⟩
 .exact⟨its.toList,o,n,z,B _ _ e,I,by simp[hd]⟩
theorem sS{a:Addr}{xs:List V}(j:Kw P w H h)(I:K.In h)(q:Cd K H a xs):∃(its:List Value)(o:Obj)(n:Nat),Vals xs its/\h.get? a=some o/\o.cls=.type "tuple"/\o.data=.seq its.toArray n:=by
 rcases q with q|⟨o,its,n,e,z,hd,_,B⟩
 .obtain⟨_,its,B,o,e,z,n,hd⟩:=(show CC P w H h a (.tup xs)from q.ok j);exact⟨its,o,n,B,e,z,hd⟩
 .exact⟨its.toList,o,n,B,I _ _ e,z,by simp[hd]⟩
mutual
theorem Dw.reads(j:Kw P w H h)(q:K.In h):∀(d:WData)(v:V)(u:Value),Dw K H v d->RelV v u->∃as,ReadsW R cl h u d as
 | .none,_,_,x,r=>by cases x;cases r;exact⟨_,ReadsW.none⟩
 | .bool b,_,_,x,r=>by cases x;cases r;exact⟨_,ReadsW.bool b⟩
 | .int i,_,_,x,r=>by cases x;obtain⟨t,rfl⟩:=r;exact⟨_,ReadsW.int i t⟩
 | .str s,_,_,x,r=>by cases x;obtain⟨t,rfl⟩:=r;exact⟨_,ReadsW.str s t⟩
 | .bytes b,_,_,x,r=>by cases x;obtain⟨t,rfl⟩:=r;exact⟨_,ReadsW.bytes _ t⟩
 | .list ds,_,_,x,r=>by
  cases x with
  |lst z B=>cases r;obtain⟨its,o,n,I,J,L,hd⟩:=rY j q z;obtain⟨as,M⟩:=Dw.readsAll j q ds _ its B I;exact⟨_,ReadsW.list J L hd M⟩
 | .tuple ds,_,_,x,r=>by
  cases x with
  |tup z B=>cases r;obtain⟨its,o,n,I,J,L,hd⟩:=sS j q z;obtain⟨as,M⟩:=Dw.readsAll j q ds _ its B I;exact⟨_,ReadsW.tuple J L hd M⟩
 | .float _,_,_,x,_=>by cases x
 | .dict _,_,_,x,_=>by cases x
 | .bytearray _,_,_,x,_=>by cases x
 | .set _,_,_,x,_=>by cases x
 | .frozenset _,_,_,x,_=>by cases x
 | .obj _ _,_,_,x,_=>by cases x
theorem Dw.readsAll(j:Kw P w H h)(n:K.In h):∀(ds:List WData)(vs:List V)(us:List Value),Ia K H vs ds->Vals vs us->∃as,ReadsAllW R cl h us ds as
 |[],_,_,x,r=>by cases x;cases r;exact⟨_,ReadsAllW.nil⟩
 |d::ds,_,_,x,r=>by
  cases x with
  |cons h1 h2=>
   cases r with
   |cons q z=>obtain⟨as,B⟩:=Dw.reads j n d _ _ h1 q;obtain⟨bs,I⟩:=Dw.readsAll j n ds _ _ h2 z;exact⟨_,ReadsAllW.cons B I⟩
end
end
mutual
noncomputable def gy:WData->Bool
 | .none=>true
 | .bool _=>true
 | .int _=>true
 | .str _=>true
 | .bytes _=>true
 | .list xs=>S4 xs
 | .tuple xs=>S4 xs
 |_=>false
noncomputable def S4:List WData->Bool
 |[]=>true
 |x::r=>gy x && S4 r
end
theorem cY{j:Type}{f:j->WData}(h:∀a,gy (f a)=true):∀l:List j,S4 (l.map f)=true
 |[]=>rfl
 |x::r=>by show(gy (f x) && S4 (r.map f))=true;rw[h x,cY h r]<;> rfl
theorem Lf:∀(c:Codec)(a:c.denote),gy (c.enc a)=true
 | .unit,_=>rfl
 | .bool,_=>rfl
 | .int _ _,_=>rfl
 | .nat _ _,_=>rfl
 | .u8,_=>rfl
 | .bytes _ _,_=>rfl
 | .text _ _ _ _,_=>rfl
 | .list _ _ c,a=>cY (λx=>Lf c x) a
 | .pair c d,a=>by show(gy (c.enc a.1) && (gy (d.enc a.2) && true))=true;rw[Lf c a.1,Lf d a.2]<;> rfl
 | .triple c d e,a=>by show(gy (c.enc a.1) && (gy (d.enc a.2.1) && (gy (e.enc a.2.2) && true)))=true;rw[Lf c a.1,Lf d a.2.1,Lf e a.2.2]<;> rfl
 | .option c,none=>rfl
 | .option c,some x=>Lf c x
theorem Xn:∀(j:List Codec)(a:Codec.denoteAll j),S4 (Codec.encAll j a)=true
 |[],_=>rfl
 |c::j,a=>by show(gy (c.enc a.1) && S4 (Codec.encAll j a.2))=true;rw[Lf c a.1,Xn j a.2]<;> rfl
theorem Od:∀{xs:List WData}{d:WData},d∈xs->d.weight<=WData.weightAll xs
 |[],d,h=>absurd h (by simp)
 |x::r,d,h=>by
  show d.weight<=x.weight+1+WData.weightAll r;rcases xb.mp h with e|m
  .rw[e];omega
  .have z:=Od m;omega
noncomputable def toV:Value->V
 | .none=>.non
 | .bool b=>.bl b
 | .int i _=>.int i
 | .str x _=>.str x
 | .bytes b _=>.byt b
 | .ref a=>.ref a
 |_=>.non
def ie(A:List Addr):Value->Prop
 | .none=>True
 | .bool _=>True
 | .int _ _=>True
 | .str _ _=>True
 | .bytes _ _=>True
 | .ref a=>a∈A
 |_=>False
theorem ie.mono{A B:List Addr}(h:∀a∈A,a∈B):∀{u:Value},ie A u->ie B u:=λ{u}x=>by
 cases u with
 |ref a=>exact h a x
 |none=>trivial
 |bool b=>trivial
 |int i t=>trivial
 |str s t=>trivial
 |bytes b t=>trivial
 |_=>exact False.elim x
theorem m4{A:List Addr}{u:Value}(x:ie A u):RelV (toV u) u:=by
 cases u with
 |ref a=>rfl
 |none=>rfl
 |bool b=>rfl
 |int i t=>exact⟨t,rfl⟩
 |str s t=>exact⟨t,rfl⟩
 |bytes b t=>exact⟨t,rfl⟩
 |_=>exact False.elim x
theorem IZ{A:List Addr}:∀{vs:List Value},(∀u∈vs,ie A u)->Vals (vs.map toV) vs
 |[],_=>.nil
 |u::r,h=>.cons (m4 (h u (xl ..))) (IZ λx j=>h x (xY _ j))
def Kd(h:Heap)(A:List Addr)(a:Addr):Prop:=∃vs:List Value,vs.length<=sizeLine/\(∀u∈vs,ie A u)/\
 (h.get? a=some {cls:=.type "list",data:=.seq vs.toArray}\/h.get? a=some {cls:=.type "tuple",data:=.seq vs.toArray})
theorem Kd.mono{h:Heap}{A B:List Addr}{a:Addr}(k:∀a∈A,a∈B)(x:Kd h A a):Kd h B a:=by obtain⟨vs,h1,h2,j⟩:=x;exact⟨vs,h1,λu n=>(h2 u n).mono k,j⟩
theorem Ho{P:Params}{h:Heap}:∀{vs:List Value}{ds:List WData},WellAll P h vs ds->vs.length=ds.length
 |_,_,.nil=>rfl
 |_,_,.cons _ b=>by show _+1=_+1;rw[Ho b]
theorem Ws{P:Params}{h:Heap}{v:Value}{ds:List WData}(x:Well P h v (.list ds)):∃(a:Addr)(vs:List Value),v=.ref a/\h.get? a=some {cls:=.type "list",data:=.seq vs.toArray}/\WellAll P h vs ds:=by
 cases x with
 |list n j=>exact⟨_,_,rfl,n,j⟩
theorem VE{P:Params}{h:Heap}{v:Value}{ds:List WData}(x:Well P h v (.tuple ds)):∃(a:Addr)(vs:List Value),v=.ref a/\h.get? a=some {cls:=.type "tuple",data:=.seq vs.toArray}/\WellAll P h vs ds:=by
 cases x with
 |tuple n j=>exact⟨_,_,rfl,n,j⟩
theorem XN{P:Params}{h:Heap}{us:List Value}{d:WData}{ds:List WData}(x:WellAll P h us (d::ds)):∃(v:Value)(vs:List Value),us=v::vs/\Well P h v d/\WellAll P h vs ds:=by
 cases x with
 |cons a b=>exact⟨_,_,rfl,a,b⟩
theorem gm{n:Nat}(h:n<=1048576):n<=sizeLine:=xr h Dc
section
variable{P:Params}{h:Heap}
mutual
theorem lZ:∀(d:WData)(v:Value),Well P h v d->gy d=true->d.weight<=1048576->∃A:List Addr,ie A v/\∀a∈A,Kd h A a
 | .none,_,x,_,_=>by cases x;exact⟨[],trivial,λa m=>absurd m (by simp)⟩
 | .bool b,_,x,_,_=>by cases x;exact⟨[],trivial,λa m=>absurd m (by simp)⟩
 | .int i,_,x,_,_=>by cases x;exact⟨[],trivial,λa m=>absurd m (by simp)⟩
 | .str s,_,x,_,_=>by cases x;exact⟨[],trivial,λa m=>absurd m (by simp)⟩
 | .bytes b,_,x,_,_=>by cases x;exact⟨[],trivial,λa m=>absurd m (by simp)⟩
 | .list ds,_,x,p,z=>by
  obtain⟨a,vs,rfl,B,j⟩:=Ws x;have q:WData.weightAll ds<=1048576:=z;obtain⟨A,h1,h2⟩:=PU ds _ j p λd hd=>xr (Od hd) q;have k:∀b∈A,b∈a::A:=λb n=>xY _ n;refine⟨a::A,xl ..,λb n=>?_⟩;rcases xb.mp n with e|m
  .rw[e];exact⟨vs,gm (by rw[Ho j];exact xr (ABS ds) q),λu I=>(h1 u I).mono k,.inl B⟩
  .exact(h2 b m).mono k
 | .tuple ds,_,x,p,z=>by
  obtain⟨a,vs,rfl,B,j⟩:=VE x;have q:WData.weightAll ds<=1048576:=z;obtain⟨A,h1,h2⟩:=PU ds _ j p λd hd=>xr (Od hd) q;have k:∀b∈A,b∈a::A:=λb n=>xY _ n;refine⟨a::A,xl ..,λb n=>?_⟩;rcases xb.mp n with e|m
  .rw[e];exact⟨vs,gm (by rw[Ho j];exact xr (ABS ds) q),λu I=>(h1 u I).mono k,.inr B⟩
  .exact(h2 b m).mono k
 | .float _,_,_,p,_=>Bool.noConfusion (show false=true from p)
 | .dict _,_,_,p,_=>Bool.noConfusion (show false=true from p)
 | .bytearray _,_,_,p,_=>Bool.noConfusion (show false=true from p)
 | .set _,_,_,p,_=>Bool.noConfusion (show false=true from p)
 | .frozenset _,_,_,p,_=>Bool.noConfusion (show false=true from p)
 | .obj _ _,_,_,p,_=>Bool.noConfusion (show false=true from p)
theorem PU:∀(ds:List WData)(vs:List Value),WellAll P h vs ds->S4 ds=true->(∀d∈ds,d.weight<=1048576)->∃A:List Addr,(∀u∈vs,ie A u)/\∀a∈A,Kd h A a
 |[],_,x,_,_=>by cases x;exact⟨[],λu m=>absurd m (by simp),λa m=>absurd m (by simp)⟩
 |d::ds,_,x,p,z=>by
  obtain⟨v,vs,rfl,J,L⟩:=XN x;have q:gy d=true/\S4 ds=true:=xT.mp p;obtain⟨A,M,N⟩:=lZ d v J q.1 (z d (xl ..));obtain⟨B,O,U⟩:=PU ds vs L q.2 λe Y=>z e (xY _ Y);have n:∀b∈A,b∈A++B:=λb j=>xq.mpr (.inl j);have I:∀b∈B,b∈A++B:=λb j=>xq.mpr (.inr j);refine⟨A++B,λu hu=>?_,λb j=>?_⟩
  .rcases xb.mp hu with e|m
   .rw[e];exact M.mono n
   .exact(O u m).mono I
  .rcases xq.mp j with m|m
   .exact(N b m).mono n
   .exact(U b m).mono I
end
end
def oC(o:Obj):Option HO:=match o.data with
 | .seq vs _=>if(o.cls==Value.type "list")=true then some (.frz o (.lst (vs.toList.map toV)))else some (.frz o (.tup (vs.toList.map toV)))
 |_=>none
def Jd(K:PySem.W.Frag)(h:Heap)(A:List Addr):Hp:=λb=>if b∈A then(if(K.lookup b).isNone=true then(h.get? b).bind oC else none)else none
def bB(H:Hp):Prop:=∀b,H b=none\/∃o u,H b=some (.frz o u)
theorem cj(vs:List Value):oC {cls:=.type "list",data:=.seq vs.toArray}=some (.frz {cls:=.type "list",data:=.seq vs.toArray} (.lst (vs.map toV))):=by show(if(Value.type "list"==Value.type "list")=true then some (HO.frz {cls:=.type "list",data:=.seq vs.toArray} (.lst (vs.toArray.toList.map toV)))else some (HO.frz {cls:=.type "list",data:=.seq vs.toArray} (.tup (vs.toArray.toList.map toV))))=_;rw[xQ (beq_self_eq_true _)]
theorem cD(vs:List Value):oC {cls:=.type "tuple",data:=.seq vs.toArray}=some (.frz {cls:=.type "tuple",data:=.seq vs.toArray} (.tup (vs.map toV))):=by show(if(Value.type "tuple"==Value.type "list")=true then some (HO.frz {cls:=.type "tuple",data:=.seq vs.toArray} (.lst (vs.toArray.toList.map toV)))else some (HO.frz {cls:=.type "tuple",data:=.seq vs.toArray} (.tup (vs.toArray.toList.map toV))))=_;rw[xJ Dc]
section
variable{P:Program}{w:World}{K:PySem.W.Frag}{h:Heap}{A:List Addr}
theorem TX{b:Addr}{o:Obj}(j:b∈A)(n:K.lookup b=none)(e:h.get? b=some o):Jd K h A b=oC o:=by unfold Jd;rw[xQ j,n,xQ (show(none:Option Obj).isNone=true from rfl),e]<;> rfl
theorem nS{b:Addr}{u:HO}(q:Jd K h A b=some u):b∈A/\K.lookup b=none:=by
 unfold Jd at q;by_cases j:b∈A
 .rw[xQ j]at q;cases n:K.lookup b with
  |none=>exact⟨j,rfl⟩
  |some o=>rw[n,xJ (by simp)]at q;cases q
 .rw[xJ j]at q;cases q
theorem TK(z:∀a∈A,Kd h A a){b:Addr}{u:HO}(q:Jd K h A b=some u):K.lookup b=none/\∃vs:List Value,vs.length<=sizeLine/\(∀u∈vs,ie A u)/\
  ((h.get? b=some {cls:=.type "list",data:=.seq vs.toArray}/\u=.frz {cls:=.type "list",data:=.seq vs.toArray} (.lst (vs.map toV)))\/
   (h.get? b=some {cls:=.type "tuple",data:=.seq vs.toArray}/\u=.frz {cls:=.type "tuple",data:=.seq vs.toArray} (.tup (vs.map toV)))):=by
 obtain⟨j,n⟩:=nS q;obtain⟨vs,h1,h2,B⟩:=z b j;refine⟨n,vs,h1,h2,?_⟩;rcases B with e|e
 .rw[TX j n e,cj]at q;exact .inl ⟨e,(xn q).symm⟩
 .rw[TX j n e,cD]at q;exact .inr ⟨e,(xn q).symm⟩
theorem iZ(j:∀a∈A,Kd h A a):bB (Jd K h A):=λb=>by
 cases q:Jd K h A b with
 |none=>exact .inl rfl
 |some u=>
  obtain⟨_,vs,_,_,⟨_,e⟩|⟨_,e⟩⟩:=TK j q
  .exact .inr ⟨_,_,by rw[e]⟩
  .exact .inr ⟨_,_,by rw[e]⟩
theorem oy(j:∀a∈A,Kd h A a):Kw P w (Jd K h A) h:=λb u q=>by
 obtain⟨_,vs,h1,h2,⟨e,rfl⟩|⟨e,rfl⟩⟩:=TK j q
 .exact⟨e,by rw[xH];exact h1,vs,_,IZ h2,e⟩
 .exact⟨e,by rw[xH];exact h1,vs,IZ h2,_,e,rfl,_,rfl⟩
theorem TQ{c j:Value}{vs us:List Value}(e:(some {cls:=c,data:=.seq vs.toArray}:Option Obj)=some {cls:=j,data:=.seq us.toArray}):c=j/\vs=us:=by
 have e1:=xn e;have n:c=j:=x3 Obj.cls e1;have q:Data.seq vs.toArray=Data.seq us.toArray:=x3 Obj.data e1;injection q with z
 refine⟨n,?_⟩;have B:=x3 Array.toList z;simpa using B
theorem vP(B:K.In h)(I:∀a∈A,Kd h A a){a:Addr}{vs:List Value}(n:a∈A)(e:h.get? a=some {cls:=.type "list",data:=.seq vs.toArray}):(∀u∈vs,ie A u)/\Ah K (Jd K h A) a (vs.map toV):=by
 obtain⟨us,h1,h2,J⟩:=I a n;have L:us=vs:=by
  rcases J with q|q
  .rw[e]at q;exact(TQ q).2.symm
  .rw[e]at q;exact absurd (Value.type.inj (TQ q).1) Dc
 subst L;refine⟨h2,?_⟩;cases j:K.lookup a with
 |none=>exact .inl (.inr ⟨_,by rw[TX n j e,cj]⟩)
 |some o=>have z:=B a o j;rw[e]at z;obtain rfl:=xn z;exact .inr ⟨_,us.toArray,_,j,rfl,rfl,rfl,by rw[x1];exact h1,by simpa using IZ h2⟩
theorem wK(B:K.In h)(I:∀a∈A,Kd h A a){a:Addr}{vs:List Value}(n:a∈A)(e:h.get? a=some {cls:=.type "tuple",data:=.seq vs.toArray}):(∀u∈vs,ie A u)/\Cd K (Jd K h A) a (vs.map toV):=by
 obtain⟨us,h1,h2,J⟩:=I a n;have L:us=vs:=by
  rcases J with q|q
  .rw[e]at q;exact absurd (Value.type.inj (TQ q).1) Dc
  .rw[e]at q;exact(TQ q).2.symm
 subst L;refine⟨h2,?_⟩;cases j:K.lookup a with
 |none=>exact .inl (.inr ⟨_,by rw[TX n j e,cD]⟩)
 |some o=>have z:=B a o j;rw[e]at z;obtain rfl:=xn z;exact .inr ⟨_,us.toArray,_,j,rfl,rfl,by rw[x1];exact h1,by simpa using IZ h2⟩
mutual
theorem rn{L:Params}(n:K.In h)(q:∀a∈A,Kd h A a):∀(d:WData)(v:Value),Well L h v d->gy d=true->ie A v->Dw K (Jd K h A) (toV v) d
 | .none,_,x,_,_=>by cases x;exact .non
 | .bool b,_,x,_,_=>by cases x;exact .bl b
 | .int i,_,x,_,_=>by cases x;exact .int i
 | .str s,_,x,_,_=>by cases x;exact .str s
 | .bytes b,_,x,_,_=>by cases x;have z:=Dw.byt (K:=K) (H:=Jd K h A) b.toArray;exact z
 | .list ds,_,x,p,B=>by obtain⟨a,vs,rfl,I,j⟩:=Ws x;obtain⟨h2,J⟩:=vP n q B I;exact .lst J (ZC n q ds _ j p h2)
 | .tuple ds,_,x,p,B=>by obtain⟨a,vs,rfl,I,j⟩:=VE x;obtain⟨h2,J⟩:=wK n q B I;exact .tup J (ZC n q ds _ j p h2)
 | .float _,_,_,p,_=>Bool.noConfusion (show false=true from p)
 | .dict _,_,_,p,_=>Bool.noConfusion (show false=true from p)
 | .bytearray _,_,_,p,_=>Bool.noConfusion (show false=true from p)
 | .set _,_,_,p,_=>Bool.noConfusion (show false=true from p)
 | .frozenset _,_,_,p,_=>Bool.noConfusion (show false=true from p)
 | .obj _ _,_,_,p,_=>Bool.noConfusion (show false=true from p)
theorem ZC{B:Params}(j:K.In h)(n:∀a∈A,Kd h A a):∀(ds:List WData)(vs:List Value),WellAll B h vs ds->S4 ds=true->(∀u∈vs,ie A u)->Ia K (Jd K h A) (vs.map toV) ds
 |[],_,x,_,_=>by cases x;exact .nil
 |d::ds,_,x,p,z=>by obtain⟨v,vs,rfl,I,J⟩:=XN x;have q:gy d=true/\S4 ds=true:=xT.mp p;exact .cons (rn j n d v I q.1 (z _ (xl ..))) (ZC j n ds vs J q.2 λu m=>z u (xY _ m))
end
end
theorem i1{P:Program}{w:World}{K:PySem.W.Frag}{mg mb:Str->Option Value}{CX:j9}{k:Nat}{fa:Addr}{fd:FuncData}{ps:List Str}{sp:Sp}{s₁:Shared}{j:List Value}{ds:List WData}{R:PySem.W.WRecords}{cl:Str->Option Addr}{d0:WData}
  (KX:K.In s₁.heap) (O:s₁.heap.Ns mainGlobals mg) (hb:s₁.heap.Ns builtinsNs mb) (af:∀x:Str,x≠"__name__"->mb x=bootBuiltins x) (U:s₁.heap.NoLimit) (hg:s₁.gens= #[])
  (L:WellAll w.params s₁.heap j ds) (Y:S4 ds=true) (ag:∀d∈ds,d.weight<=1048576) (hr:DI k callerA)
  (F:∀base:Heap,K.In base->base.Ns mainGlobals mg->IV P w K mg base CX k fa fd ps sp) (M:∀(s:Shared)(us:List Value),us.length=ps.length->BindsTo s fd ⟨us,[]⟩ (ps.zip us)) (aa:ds.length=ps.length)
  (ah:∀(H:Hp)(xs:List V),bB H->Ia K H xs ds->sp xs H (λv H'=>Dw K H' v d0) λ_ _ _=>False)
  (ai:∀H e s',CX [] H s₁ (λ_ _ _=>False) e s'->False):
  codeAny (model P w) callerA (.call (.ref fa) ⟨j,[]⟩) (λr s'=>∃u as,r=.ok (.ret u)/\ReadsW R cl s'.heap u d0 as/\OldK s₁.heap s'.heap/\s'.os=s₁.os/\AllBare s'.gens) s₁:=by
 obtain⟨A,ho,ar⟩:=PU ds j L Y ag;have hO:bB (Jd K s₁.heap A):=iZ ar;have N:Kw P w (Jd K s₁.heap A) s₁.heap:=oy ar;have hS:=ZC KX ar ds j L Y ho;have hV:=IZ ho;have hK:∀b u,Jd K s₁.heap A b=some u->K.lookup b=none:=λb u q=>(TK ar q).1;have ab:∀{b:Addr}{o:Obj}{es:Array DictEntry}{ep:Nat},s₁.heap.get? b=some o->o.data=.dict es ep->Jd K s₁.heap A b=none:=λ{b o es ep}e d=>by
  cases q:Jd K s₁.heap A b with
  |none=>rfl
  |some u=>
   obtain⟨_,vs,_,_,⟨e2,_⟩|⟨e2,_⟩⟩:=TK ar q
   .rw[e2]at e;cases e;have d':Data.seq vs.toArray _=Data.dict es ep:=d;cases d'
   .rw[e2]at e;cases e;have d':Data.seq vs.toArray _=Data.dict es ep:=d;cases d'
 generalize Jd K s₁.heap A=H at hO N hS hK ab;have B:∀{b:Addr}{o:Obj},s₁.heap.get? b=some o->H b=none->(Ya s₁.heap H).get? b=some o:=λe n=>kg e n;have I:∀{b:Addr}{m:Str->Option Value},s₁.heap.Ns b m->(Ya s₁.heap H).Ns b m:=λ{b m}⟨o,es,ep,e,d,r⟩=>⟨o,es,ep,B e (ab e d),d,r⟩;have nK:∀b o,K.lookup b=some o->H b=none:=λb o e=>by
  cases q:H b with
  |none=>rfl
  |some u=>rw[hK b u q]at e;cases e
 have ae:K.In (Ya s₁.heap H):=λb o e=>B (KX b o e) (nK b o e);have hM:Mod K mg (Ya s₁.heap H):=⟨ae,I O,⟨mb,I hb,af⟩,let⟨mc,h1,h2⟩:=U;⟨mc,I h1,h2⟩⟩;have e0:Wm P w K mg (Ya s₁.heap H) callerA [] s₁ H:=⟨rfl,hM,λb o e=>pE e,ABs (iY _ _),trivial,λb hb=>absurd (show b∈([]:List Addr)from hb) (by simp),N,.of_eq hg⟩;have hl:j.length=ps.length:=by rw[Ho L];exact aa
 refine zl ((F _ ae (I O)).run callerA [] s₁ H ⟨j,[]⟩ j (j.map toV) _ _ hr e0 (M s₁ j hl) hV (ah H _ hO hS)) λr s' x=>?_;cases r with
 |error e=>exact(ai H e s' x).elim
 |ok fl=>
  cases fl with
  |next=>exact False.elim x
  |brk=>exact False.elim x
  |cont=>exact False.elim x
  |ret u=>
   obtain⟨v,H',os,bare,un,J,r',q⟩:=x;have kept:∀b o,s₁.heap.get? b=some o->s'.heap.get? b=some o:=λb o e=>by
    cases q2:H b with
    |none=>exact un.keep b o e q2 (by intro z;exact absurd (show b∈([]:List Addr)from z) (by simp)) (by simp)
    |some u2=>
     rcases hO b with z|⟨ob,u3,z⟩
     .rw[q2]at z;cases z
     .have z2:=un.ZO b ob _ z;obtain⟨e1,_⟩:=N b _ z;obtain⟨e2,_⟩:=J b _ z2;rw[e]at e1;cases e1;exact e2
   have aj:K.In s'.heap:=λb o e=>kept b o (KX b o e);obtain⟨as,ak⟩:=Dw.reads (R:=R) (cl:=cl) J aj d0 v u q r';exact⟨u,as,rfl,ak,OldK.of_keep kept,os,bare⟩
theorem VQ{ds:List WData}(h:WData.layableAll ds=true):∀d∈ds,d.weight<=1048576:=λd hd=>
 (PySem.W.layableW_iff.mp (xk.mp h d hd)).2.2
theorem VS:∀(j:List Codec)(a:Codec.denoteAll j),(Codec.encAll j a).length=j.length
 |[],_=>rfl
 |c::j,a=>by show(Codec.encAll j a.2).length+1=j.length+1;rw[VS j a.2]
theorem ir{r:OpenSpec}{k:Nat}{q:Program}{loose:List Str}{XP:(Str->Option Value)->Heap->Prop}{M:World->Heap->Prop}{d:DefRec}{K:Params->PySem.W.Frag}{CX:World->j9}{ps:List Str}{sp:World->Sp}
  (j:r.wellSaid=true) (ag:d.params.defaults=[]) (n:r.args.length=ps.length) (hr:DI k callerA)
  (hY:∀(w:World)(h:Heap),M w h->(K w.params).In h)
  (F:∀(w:World)(mg:Str->Option Value)(L:Addr)(h:Heap),M w h->(K w.params).In h->h.Ns mainGlobals mg->mg d.name=some (.ref L)->
   ∃fd:FuncData,(∀(s:Shared)(us:List Value),us.length=ps.length->BindsTo s fd ⟨us,[]⟩ (ps.zip us))/\
    ∀base:Heap,(K w.params).In base->base.Ns mainGlobals mg->IV r.prog w (K w.params) mg base (CX w) k L fd ps (sp w))
  (N:∀(w:World)(H:Hp)(xs:List V)(a:Codec.denoteAll r.args),bB H->Codec.withinAll r.args a=true->Codec.app r.args r.asked a=true->Ia (K w.params) H xs (Codec.encAll r.args a)->
   sp w xs H (λv H'=>Dw (K w.params) H' v (r.ret.enc (Codec.app r.args r.f a))) λ_ _ _=>False)
  (O:∀(w:World)(H:Hp)(s:Shared)(e:Value)(s':Shared),CX w [] H s (λ_ _ _=>False) e s'->False):
  PySem.W.WalkOS q loose XP M r d [] (λf vs=>PySem.call f vs):=by
 intro w U s₁ mg mb G Y L o pm cd ah dV kV ho hd ai hD aa hg args af as B I aj ab ak;obtain⟨a,e1,e2⟩:=PySem.W.os_pre_some B;obtain⟨e3,J⟩:=Codec.encAll_of_decAll r.args args a e1;subst e3;have KX:=hY w _ Y;obtain⟨fd,hb,hF⟩:=F w mg L _ Y KX G.T.g aa;refine PySem.W.enter_call (zl (i1 (R:=[]) (cl:=classAt U.heap) (d0:=r.ret.enc (Codec.app r.args r.f a)) KX G.T.g G.T.b G.T.builtins G.T.nolimit hg ab (Xn _ _) (VQ I) hr hF hb (by rw[VS];exact n)
  (λH xs hO hS=>N w H xs a hO J e2 hS) λH e s'=>O w H s₁ e s') λr' s' hq=>?_)
 obtain⟨u,ae,rfl,h1,h2,h3,h4⟩:=hq;exact⟨.inl ⟨u,_,ae,rfl,λ_=>rfl,h1,(OpenSpec.post_iff j J _ _).mpr rfl,λz=>Bool.noConfusion (show false=true from z)⟩,h2,h3,h4⟩
theorem dP{r:OpenSpec}{k:Nat}{q:Program}{loose:List Str}{M:(Str->Option Value)->Heap->Prop}{z:World->Heap->Prop}{d:DefRec}{K:Params->PySem.W.Frag}{CX:j9}{ps:List Str}{sp:PySem.W.Frag->Sp}
  (j:r.wellSaid=true) (B:d.params.defaults=[]) (n:r.args.length=ps.length) (N:DI k callerA)
  (O:∀(w:World)(h:Heap),z w h->(K w.params).In h)
  (F:∀(w:World)(mg:Str->Option Value)(L:Addr)(h:Heap),z w h->(K w.params).In h->h.Ns mainGlobals mg->mg d.name=some (.ref L)->
   ∃fd:FuncData,(∀(s:Shared)(us:List Value),us.length=ps.length->BindsTo s fd ⟨us,[]⟩ (ps.zip us))/\
    ∀base:Heap,(K w.params).In base->base.Ns mainGlobals mg->IV r.prog w (K w.params) mg base CX k L fd ps (sp (K w.params)))
  (I:∀(K:PySem.W.Frag)(H:Hp)(xs:List V)(a:Codec.denoteAll r.args),bB H->Codec.withinAll r.args a=true->Codec.app r.args r.asked a=true->Ia K H xs (Codec.encAll r.args a)->
   sp K xs H (λv H'=>Dw K H' v (r.ret.enc (Codec.app r.args r.f a))) λ_ _ _=>False)
  (J:∀(H:Hp)(s:Shared)(e:Value)(s':Shared),CX [] H s (λ_ _ _=>False) e s'->False):
  PySem.W.WalkOS q loose M z r d [] (λf vs=>PySem.call f vs):=
 ir (K:=K) (CX:=λ_=>CX) (sp:=λw=>sp (K w.params)) j B n N O F (λw H xs a h1 h2 U Y=>I (K w.params) H xs a h1 h2 U Y) λ_ H s e s'=>J H s e s'
end L2
end
section
namespace CE
open Vbptal
theorem mh:∀(t m j:Nat),m.testBit t=false->(m+2 ^ t).testBit j=(m.testBit j|| decide (j=t))
 |0,m,j,h=>by
  have q:m % 2=0:=by have:=h;rw[zS]at this;simp at this;lia
  cases j with
  |zero=>rw[zS,zS];simp;lia
  |succ j=>
   rw[z9,z9];have:(m+2 ^ 0) / 2=m / 2:=by lia
   rw[this];simp
 |t+1,m,j,h=>by
  have h':(m / 2).testBit t=false:=by rw[<-z9];exact h
  have n:m+2 ^ (t+1)=m+2 ^ t*2:=by rw[za]
  cases j with
  |zero=>
   rw[zS,zS,n];have:(m+2 ^ t*2) % 2=m % 2:=by lia
   rw[this];simp
  |succ j=>
   rw[z9,z9,n];have:(m+2 ^ t*2) / 2=m / 2+2 ^ t:=by lia
   rw[this,mh t (m / 2) j h']
   congr 1
   by_cases e:j=t
   .subst e;simp
   .simp[e]
theorem Px:∀(l:List Nat)(m j:Nat),(l.foldl (λm t=>if m.testBit t=true then m else m+2 ^ t) m).testBit j=(m.testBit j|| decide (j∈l))
 |[],m,j=>by simp
 |t::l,m,j=>by
  rw[List.foldl_cons,Px l];by_cases h:m.testBit t=true
  .rw[xQ h];by_cases e:j=t
   .subst e;simp[h]
   .simp[e]
  .rw[xJ h,mh t m j (by simpa using h)];by_cases e:j=t
   .subst e;simp
   .simp[e]
theorem Au(l:List Nat)(j:Nat):(maskOf l).testBit j=decide (j∈l):=by unfold maskOf;rw[Px];simp
theorem BI:t∈topics m↔t<12/\m.testBit t=true:=by unfold topics TOPICS;simp[yH]
theorem OC(h:∀j,x.testBit j=true->j<12):x<4096:=by
 have:x<2 ^ 12:=Nat.lt_pow_two_of_testBit x λi hi=>by
  cases e:x.testBit i with
  |false=>rfl
  |true=>have:=h i e;lia
 simpa using this
theorem Q9(n:x<4096)(h:x.testBit j=true):j<12:=by apply yL;intro q;have:x<2 ^ j:=yC (show x<2 ^ 12 by simpa using n) (zb Dc Om);rw[Nat.testBit_lt_two_pow this]at h;cases h
theorem MY(h:∀t∈l,t<12):maskOf l<4096:=OC λj n=>by rw[Au]at n;exact h j (xI n)
theorem dB(a b j:Nat):(meet a b).testBit j=(decide (j<12) && (a.testBit j && b.testBit j)):=by unfold meet;rw[Au];simp only[yH,BI];by_cases h:j<12<;> cases a.testBit j<;> cases b.testBit j<;> simp[h]
theorem Fe(a b j:Nat):(less a b).testBit j=(decide (j<12) && (a.testBit j && !b.testBit j)):=by unfold less;rw[Au];simp only[yH,BI];by_cases h:j<12<;> cases a.testBit j<;> cases b.testBit j<;> simp[h]
theorem iQ(n:a<4096):meet a b=a &&& b:=by
 apply yO;intro j;rw[dB,yf];cases e:a.testBit j with
 |false=>simp
 |true=>simp[Q9 n e]
theorem cn:∀(m n:Nat),(m ^^^ n)+2* (m &&& n)=m+n:=by
 intro m
 induction m using Nat.strongRecOn with
 |ind m j=>
  intro n;by_cases q:m=0
  .subst q;simp
  .have h:=j (m / 2) Om (n / 2);have e1:(m ^^^ n) / 2=m / 2 ^^^ n / 2:=Nat.xor_div_two;have B:(m &&& n) / 2=m / 2 &&& n / 2:=Nat.and_div_two;have z:(m ^^^ n) % 2=(m % 2+n % 2) % 2:=by
    have:=AB9 m n 0;simp only[zS]at this;rcases yd m with a|a<;> rcases yd n with b|b<;> rcases yd (m ^^^ n)with c|c<;> simp[a,b,c]at this⊢
   have p2:(m &&& n) % 2=(m % 2)* (n % 2):=by have:=yf m n 0;simp only[zS]at this;rcases yd m with a|a<;> rcases yd n with b|b<;> rcases yd (m &&& n)with c|c<;> simp[a,b,c]at this⊢
   rcases yd m with a|a<;> rcases yd n with b|b<;> rw[a,b]at z p2<;> lia
theorem j8(h:x &&& y=0):x+y=x||| y:=by
 have h1:=cn x y;rw[h]at h1;have:x ^^^ y=x||| y:=by
  apply yO;intro j;have n:(x &&& y).testBit j=false:=by rw[h];simp
  rw[yf]at n;rw[AB9,AAQ];cases a:x.testBit j<;> cases b:y.testBit j<;> simp[a,b]at n⊢
 lia
theorem iH(n:a<4096):less a b=a - (a &&& b):=by
 have h:less a b &&& (a &&& b)=0:=by apply yO;intro j;rw[yf,yf,Fe];cases a.testBit j<;> cases b.testBit j<;> simp
 have h2:=j8 h;have q:less a b|||(a &&& b)=a:=by
  apply yO;intro j;rw[AAQ,yf,Fe];cases e:a.testBit j with
  |false=>simp
  |true=>cases b.testBit j<;> simp[Q9 n e]
 exact Nat.eq_sub_of_add_eq (h2.trans q)
theorem oE(a b:Nat):meet a b<4096:=OC λj h=>by rw[dB]at h;simp at h;exact h.1
theorem YK(a b:Nat):less a b<4096:=OC λj h=>by rw[Fe]at h;simp at h;exact h.1
theorem j6(q:a<4096):within_ a b=decide (a &&& b=a):=by
 unfold within_;by_cases h:a &&& b=a
 .rw[xR h,xk];intro t z;have h1:=(BI.mp z).2;rw[<-h,yf]at h1;simp at h1;exact h1.2
 .rw[xV h];apply ze.mpr;intro n;rw[xk]at n;apply h;apply yO;intro j;rw[yf];cases e:a.testBit j with
  |false=>simp
  |true=>rw[n j (BI.mpr ⟨Q9 q e,e⟩)];rfl
theorem br:within_ a b=decide (less a b=0):=by
 unfold within_;by_cases h:less a b=0
 .rw[xR h,xk];intro t z;have h1:=BI.mp z;have h2:(less a b).testBit t=false:=by rw[h];simp
  rw[Fe,xR h1.1,h1.2]at h2;simpa using h2
 .rw[xV h];apply ze.mpr;intro n;rw[xk]at n;apply h;apply yO;intro j;rw[Fe];by_cases q:j<12
  .cases e:a.testBit j with
   |false=>simp
   |true=>rw[n j (BI.mpr ⟨q,e⟩)];simp
  .simp[q]
theorem bg(h:rising (a::l)=true):rising l=true:=by
 cases l with
 |nil=>rfl
 |cons b l=>exact(xT.mp h).2
theorem XB:∀{l:List Nat}{a:Nat},rising (a::l)=true->∀b∈l,a<b
 |[],_,_,_,j=>by simp at j
 |c::l,a,h,b,j=>by
  have h:=xT.mp h;rcases xb.mp j with rfl|j
  .exact xI h.1
  .exact ABG (xI h.1) (XB h.2 b j)
theorem KN:∀{l:List Nat},rising l=true->l.Pairwise (· < ·)
 |[],_=>.nil
 |_::_,h=>.cons (XB h) (KN (bg h))
theorem FR:∀{l m:List Nat},l.Pairwise (· < ·)->m.Pairwise (· < ·)->(∀x,x∈l↔x∈m)->l=m
 |[],[],_,_,_=>rfl
 |[],b::m,_,_,h=>by have:=(h b).mpr (by simp);simp at this
 |a::l,[],_,_,h=>by have:=(h a).mp (by simp);simp at this
 |a::l,b::m,B,I,h=>by
  obtain⟨h1,h2⟩:=yS.mp B;obtain⟨z,J⟩:=yS.mp I;have n:a=b:=by
   rcases xb.mp ((h a).mp (by simp))with e|e
   .exact e
   .rcases xb.mp ((h b).mpr (by simp))with q|q
    .exact q.symm
    .have:=z a e;have:=h1 b q;lia
  subst n
  congr 1
  refine FR h2 J λx=>⟨λj=>?_,λj=>?_⟩
  .rcases xb.mp ((h x).mp (xY _ j))with e|e
   .subst e;have:=h1 x j;lia
   .exact e
  .rcases xb.mp ((h x).mpr (xY _ j))with e|e
   .subst e;have:=z x j;lia
   .exact e
theorem Ke(m:Nat):(topics m).Pairwise (· < ·):=by unfold topics;exact zc _ zk
theorem NQ(n:rising l=true)(h:∀t∈l,t<12):topics (maskOf l)=l:=by
 refine FR (Ke _) (KN n) λx=>?_;rw[BI,Au];constructor
 .rintro⟨_,h2⟩;exact xI h2
 .intro j;exact⟨h x j,xR j⟩
theorem EJ(c:Nat):∀t,cut c t≠[]
 |[]=>by simp[cut]
 |x::l=>by
  unfold cut;split
  .simp
  .split<;> simp
theorem FJ(c:Nat)(l:Text):cut c (c::l)=[]::cut c l:=by
 rw[cut];split
 .rename_i h;exact absurd h (EJ c l)
 .rename_i p r h;rw[xQ rfl,h]
theorem Df(h:x≠c)(e:cut c l=p::r):cut c (x::l)=(x::p)::r:=by rw[cut,e];simp[h]
theorem Hi(c:Nat)(a:Text)(h:l≠[]):joined c (a::l)=a++(c::joined c l):=by
 cases l with
 |nil=>exact absurd rfl h
 |cons b l=>rfl
theorem Gw(c:Nat):∀t,joined c (cut c t)=t
 |[]=>rfl
 |x::l=>by
  have j:=Gw c l;by_cases h:x=c
  .subst h;rw[FJ,Hi _ _ (EJ _ _),j];rfl
  .obtain⟨p,r,e⟩:∃p r,cut c l=p::r:=by
    cases e:cut c l with
    |nil=>exact absurd e (EJ c l)
    |cons p r=>exact⟨p,r,rfl⟩
   rw[Df h e];rw[e]at j;cases r with
   |nil=>exact x3 (x:: ·) j
   |cons q r=>rw[Hi _ _ (by simp)]at j⊢;rw[<-j];rfl
theorem c7(c:Nat):∀{p:List Text},p≠[]->p.getLast?=some []->(p.dropLast.flatMap λa=>a++[c])=joined c p
 |[],h,_=>absurd rfl h
 |[a],_,h=>by simp at h;subst h;rfl
 |a::b::l,_,h=>by
  have h':(b::l).getLast?=some []:=by rw[List.getLast?_cons_cons]at h;exact h
  have j:=c7 c (p:=b::l) (by simp) h';rw[List.dropLast_cons_of_ne_nil (l:=b::l) (List.cons_ne_nil _ _),zJ,j,Hi c a (l:=b::l) (List.cons_ne_nil _ _),yB];rfl
noncomputable def uz(t:Text):Bool:=(number 0 11 t).all λn=>t==digits n && decide (n<12)
theorem sH:((List.range 58).all λa=>uz [a] && (List.range 58).all λb=>uz [a,b])=true:=by decide+kernel
theorem nO(r:List Nat):∀x:Nat,x<=r.foldl (λa c=>10*a+(c - 48)) x:=by
 induction r with
 |nil=>intro x;exact xZ _
 |cons y r j=>intro x;exact xr (xr (Nat.le_mul_of_pos_left x (AAH 1 9)) (zi ..)) (j _)
theorem Nd(h:number 0 11 t=some n):t=digits n/\n<12:=by
 have fin:uz t=true->t=digits n/\n<12:=λq=>by unfold uz at q;rw[h]at q;obtain⟨L,M⟩:=xT.mp q;exact⟨zv.mp L,xI M⟩
 by_cases j:t.isEmpty=true\/t.all isDigit=false\/5<t.length\/(t.head?=some 48/\t.length≠1)
 .cases(xQ j).symm.trans h
 have h:=(xJ j).symm.trans h;have hd:∀{c:Nat},c∈t->48<=c/\c<58:=λB=>by have:=xk.mp (zd λz=>j (.inr (.inl z))) _ B;exact(xT.mp this).imp xI λz=>ABj (xI z)
 have all:∀{a:Nat},a∈t->_:=λ{a}B=>xT.mp (xk.mp sH a (yZ.mpr (hd B).2));cases t with
 |nil=>exact absurd (.inl rfl) j
 |cons a t=>
  have I:=xl (a:=a) (l:=t);cases t with
  |nil=>exact fin (all I).1
  |cons b t=>
   cases t with
   |nil=>exact fin (xk.mp (all I).2 b (yZ.mpr (hd (by simp)).2))
   |cons d t=>
    exfalso;have N:a≠48:=λe=>j (.inr (.inr (.inr ⟨x3 some e,nofun⟩)));have h1:=(hd I).1;by_cases J:0<=(a::b::d::t).foldl (λa c=>10*a+(c - 48)) 0/\(a::b::d::t).foldl (λa c=>10*a+(c - 48)) 0<=11
    .have:=nO t (10* (10* (10*0+(a - 48))+(b - 48))+(d - 48));have:=xr this J.2;clear all fin h j hd J;lia
    .cases(xJ J).symm.trans h
theorem cz:∀{l:List n}{r:List B},allSome (l.map f)=some r->l.length=r.length/\∀(i:Nat)(a:n),l[i]?=some a->∃b,r[i]?=some b/\f a=some b:=by
 intro l
 induction l with
 |nil=>intro r h;cases h;exact⟨rfl,nofun⟩
 |cons a l q=>
  intro r h;rw[yE]at h;cases e:f a with
  |none=>rw[e]at h;cases h
  |some b=>
   rw[e]at h;obtain⟨I,z,h⟩:=xu.mp (show(allSome (l.map f)).map _=some r from h);subst h;obtain⟨h1,h2⟩:=q z;refine⟨x3 Nat.succ h1,λi x j=>?_⟩;cases i with
   |zero=>cases j;exact⟨b,rfl,e⟩
   |succ i=>exact h2 i x j
theorem Ts(h:topicsOf m=some k):shownMask k=m/\k<4096/\k≠0:=by
 unfold topicsOf at h;split at h
 .cases h
 .rename_i l J;split at h
  .rename_i L;have z:maskOf l=k:=xn h;obtain⟨h1,h2⟩:=cz J;have hd:(l.map digits)=cut 44 m:=by
    apply List.ext_getElem?;intro i;rw[xh];cases e:(cut 44 m)[i]? with
    |none=>
     have:l[i]?=none:=by rw[ABn]at e⊢;lia
     rw[this];rfl
    |some p=>obtain⟨b,q,B⟩:=h2 i p e;rw[q];have:=(Nd B).1;rw[this];rfl
   have j:∀t∈l,t<12:=by
    intro t M;obtain⟨i,hi⟩:=y6 M;cases e:(cut 44 m)[i]? with
    |none=>rw[ABn]at e;have:=(xP.mp hi).1;lia
    |some p=>obtain⟨b,q,B⟩:=h2 i p e;rw[hi]at q;cases q;exact(Nd B).2
   refine⟨?_,by rw[<-z];exact MY j,?_⟩
   .unfold shownMask;rw[<-z,NQ L j,hd,Gw]
   .intro I;cases n:l with
    |nil=>rw[n]at h1;exact absurd (yR.mp h1) (EJ 44 m)
    |cons t N=>
     have:(maskOf l).testBit t=true:=by rw[Au,n];simp
     rw[z,I]at this;simp at this
  .cases h
structure Cc(e:Edition):Prop where
 len:e.length<=16
 cls:∀(i:Nat)(c:Vbptal.Class),e[i]?=some c->c.mask<4096/\c.mask≠0/\isCode c.code=true/\∀j,c.over=some j->j<i
theorem Cc.nil:Cc []:=⟨by simp,λi c h=>by simp at h⟩
noncomputable def B7(e:Edition)(c:Vbptal.Class):Text:=c.code++((match c.over with
 |none=>[]
 |some i=>60::((e[i]?).map λd=>d.code).getD [])++(61::(shownMask c.mask++[59])))
theorem Fq(e:Edition):shownEdition e=e.flatMap (B7 e):=rfl
theorem eJ(ok:Cc e)(c:Vbptal.Class)(n:∀j,c.over=some j->j<e.length):
  shownEdition (e++[c])=shownEdition e++B7 e c:=by
 have RI:∀(d:Vbptal.Class),(∀j,d.over=some j->j<e.length)->B7 (e++[c]) d=B7 e d:=by
  intro d hd;unfold B7;cases e1:d.over with
  |none=>rfl
  |some i=>have:=hd i e1;simp only;rw[AAb this]
 rw[Fq,Fq,yt]
 congr 1
 .rw[AAR,AAR]<;> skip;have:e.map (B7 (e++[c]))=e.map (B7 e):=by
   apply yu;intro d hd;obtain⟨i,hi⟩:=y6 hd;have:=(xP.mp hi).1;exact RI d λj q=>ABG ((ok.cls i d hi).2.2.2 j q) this
  rw[<-AAR,<-AAR,List.flatMap_def,List.flatMap_def,this]
 .rw[zJ,List.flatMap_nil,yJ];exact RI c n
theorem placeOf_some(h:placeOf e t=some i):∃c,e[i]?=some c/\c.code=t:=by
 unfold placeOf at h;have h1:=List.find?_some h;have h2:(e[i]?.map λc=>c.code)=some t:=by simpa using h1
 cases e1:e[i]? with
 |none=>rw[e1]at h2;simp at h2
 |some c=>rw[e1]at h2;simp at h2;exact⟨c,rfl,h2⟩
noncomputable def Lh(e:Edition)(code:Text)(o:Option Nat)(k:Nat):Option Edition:=if isCode code=false\/(placeOf e code).isSome=true\/CLASSES<=e.length then none
    else if(o.all λi=>within_ k (maskAt e i))=false then none
    else if(e.any λc=>c.over==o && meet c.mask k !=0)=true then none
    else some (e++[⟨code,o,k⟩])
noncomputable def XZ(e:Edition):List Text->Option (Option Nat)
 |[]=>some none
 |[p]=>(placeOf e p).map some
 |_=>none
theorem jt{e f:Edition}{t:Text}(h:added e t=some f):∃hd m code rest k o,cut 61 t=[hd,m]/\cut 60 hd=code::rest/\topicsOf m=some k/\XZ e rest=some o/\Lh e code o k=some f:=by
 unfold added at h;generalize cut 61 t=u at h⊢
 match u,h with
 |[hd,m],h=>
  refine⟨hd,m,?_⟩;have h:(match cut 60 hd,topicsOf m with
   |code::rest,some k=>(match XZ e rest with
    |none=>none
    |some o=>Lh e code o k)
   |_,_=>none)=some f:=h
  generalize cut 60 hd=ps at h⊢;generalize topicsOf m=x at h⊢
  match ps,x,h with
  |code::rest,some k,h=>
   refine⟨code,rest,k,?_⟩;have h:(match XZ e rest with
    |none=>none
    |some o=>Lh e code o k)=some f:=h
   generalize XZ e rest=y at h⊢;cases y with
   |none=>cases h
   |some o=>exact⟨o,rfl,rfl,rfl,rfl,h⟩
theorem l9{e f:Edition}{code:Text}{o:Option Nat}{k:Nat}(h:Lh e code o k=some f):isCode code=true/\e.length<16/\f=e++[⟨code,o,k⟩]:=by
 unfold Lh at h;split at h
 .cases h
 .rename_i j;refine⟨zd λq=>j (.inl q),AAV λq=>j (.inr (.inr q)),?_⟩;clear j;split at h
  .cases h
  .split at h
   .cases h
   .exact(xn h).symm
theorem kL{e:Edition}{rest:List Text}{o:Option Nat}(h:XZ e rest=some o):(rest=[]/\o=none)\/∃p i c,rest=[p]/\o=some i/\e[i]?=some c/\c.code=p:=by
 match rest,h with
 |[],h=>exact .inl ⟨rfl,(xn h).symm⟩
 |[p],h=>obtain⟨i,hi,j⟩:=xu.mp h;obtain⟨c,n⟩:=placeOf_some hi;exact .inr ⟨p,i,c,rfl,j.symm,n⟩
theorem Us(ok:Cc e)(h:added e t=some f):
  ∃c,f=e++[c]/\Cc f/\B7 e c=t++[59]/\∀j,c.over=some j->j<e.length:=by
 obtain⟨hd,m,code,rest,k,o,h1,h2,N,I,O⟩:=jt h;obtain⟨c1,c2,rfl⟩:=l9 O;have L:=Gw 61 t;rw[h1]at L;have z:=Gw 60 hd;rw[h2]at z;obtain⟨U,Y,k3⟩:=Ts N;have I:=kL I;clear h h1 h2 N O;have B:∀j,o=some j->j<e.length:=λj J=>by
  rcases I with⟨_,q⟩|⟨p,i,c,_,q,M,_⟩
  .cases q.symm.trans J
  .rw[<-xn (q.symm.trans J)];exact(xP.mp M).1
 refine⟨_,rfl,⟨by rw[xS];exact c2,λi c hi=>?_⟩,?_,B⟩
 .by_cases n:i<e.length
  .rw[AAb n]at hi;exact ok.cls i c hi
  .have n:=Nat.le_of_not_lt n;rw[ABb n,List.getElem?_singleton]at hi;split at hi
   .rw[<-xn hi];exact⟨Y,k3,c1,λj J=>yC (B j J) n⟩
   .cases hi
 .rw[<-L];show code++(_++(61::(shownMask k++[59])))=(hd++61::m)++[59];rw[U,<-z];clear B L z U Y k3;rcases I with⟨rfl,rfl⟩|⟨p,i,c,rfl,rfl,M,rfl⟩
  .show code++61::(m++[59])=(code++61::m)++[59];rw[yB];rfl
  .show code++((60::((e[i]?).map λd=>d.code).getD [])++_)=_;rw[M,yB];show _=(code++60::c.code)++_;rw[yB];rfl
theorem JX:∀{l:List Text}{e f:Edition},Cc e->editionFrom e l=some f->Cc f/\shownEdition f=shownEdition e++l.flatMap (λa=>a++[59])
 |[],e,f,ok,h=>by have:e=f:=xn h;subst this;exact⟨ok,by simp⟩
 |t::l,e,f,ok,h=>by
  rw[editionFrom]at h;split at h
  .cases h
  .rename_i g j;obtain⟨c,h1,h2,n,q⟩:=Us ok j;obtain⟨z,B⟩:=JX h2 h;refine⟨z,?_⟩;rw[B,h1,eJ ok c q,n,zJ,yB]
theorem MP(h:editionOf t=some e):Cc e/\shownEdition e=t:=by
 unfold editionOf at h;dsimp only at h;split at h
 .cases h
 .rename_i j;simp only[AAi,Decidable.not_not]at j;obtain⟨h1,h2⟩:=JX Cc.nil h;refine⟨h1,?_⟩;rw[h2,c7 59 (EJ 59 t) j.1,Gw];rfl
theorem NG(l m:List Nat):maskOf (l++m)=maskOf l||| maskOf m:=by apply yO;intro j;rw[AAQ,Au,Au,Au];simp
theorem fu(t:Nat):maskOf [t]=2 ^ t:=by unfold maskOf;simp
theorem LU(l:List Nat)(t:Nat):maskOf (l++[t])=maskOf l||| 2 ^ t:=by rw[NG,fu]
theorem Nt(h:m<4096):maskOf (topics m)=m:=by
 apply yO;intro j;rw[Au];cases e:m.testBit j with
 |true=>exact xR (BI.mpr ⟨Q9 h e,e⟩)
 |false=>exact xV λq=>by rw[(BI.mp q).2]at e;cases e
theorem ck(j:a<4096):less a (maskOf [])=a:=by rw[iH j];simp[maskOf]
theorem Xb(a m:Nat)(l:List Nat):less (less a (maskOf l)) m=less a (maskOf (l++topics m)):=by
 apply yO;intro j;rw[Fe,Fe,Fe,Au,Au];by_cases n:j<12
 .have:decide (j∈l++topics m)=(decide (j∈l)|| m.testBit j):=by
   simp only[xq,BI];cases m.testBit j<;> simp[n]
  rw[this];cases a.testBit j<;> cases m.testBit j<;> cases decide (j∈l)<;> simp
 .simp[n]
theorem gh(m t:Nat):(m &&& 2 ^ t=0)↔m.testBit t=false:=by
 constructor
 .intro h;have:(m &&& 2 ^ t).testBit t=false:=by rw[h];simp
  rw[yf,ABw]at this;simpa using this
 .intro h;apply yO;intro j;rw[yf,Nat.testBit_two_pow];by_cases e:t=j
  .subst e;simp[h]
  .simp[e]
theorem fe(e:Edition)(i:Nat):own e i<4096:=YK _ _
theorem Xv(ok:Cc e)(i:Nat):maskAt e i<4096:=by
 unfold maskAt;cases h:e[i]? with
 |none=>decide
 |some c=>exact(ok.cls i c h).1
theorem Dl(h:e[i]?=some c):maskAt e i=c.mask:=by unfold maskAt;rw[h];rfl
noncomputable def I0(e:Edition)(i k:Nat):Nat:=less (maskAt e i) (maskOf (((e.take k).filter λc=>c.over==some i).flatMap λc=>topics c.mask))
theorem i7(e:Edition)(i:Nat):I0 e i e.length=own e i:=by unfold I0 own;rw[xm]
theorem eT(ok:Cc e)(i:Nat):I0 e i 0=maskAt e i:=by unfold I0;simp;exact ck (Xv ok i)
theorem take_succ{j:Type}{l:List j}{k:Nat}{x:j}(h:l[k]?=some x):l.take (k+1)=l.take k++[x]:=by rw[List.take_add_one,h];rfl
theorem jm{e:Edition}{i k:Nat}{c:Vbptal.Class}(h:e[k]?=some c)(j:c.over=some i):I0 e i (k+1)=less (I0 e i k) c.mask:=by unfold I0;rw[take_succ h,yV,yt,Xb];simp[j]
theorem lQ{e:Edition}{i k:Nat}{c:Vbptal.Class}(h:e[k]?=some c)(j:¬c.over=some i):I0 e i (k+1)=I0 e i k:=by unfold I0;rw[take_succ h,yV];simp[j]
theorem lN(e:Edition)(i k:Nat):I0 e i k<4096:=YK _ _
noncomputable def GY(e:Edition)(m k:Nat):Nat:=less m (maskOf ((e.take k).flatMap λc=>topics c.mask))
theorem cQ(e:Edition)(m:Nat):GY e m e.length=loose e m:=by unfold GY loose;rw[xm]
theorem Yf(e:Edition)(h:m<4096):GY e m 0=m:=by unfold GY;simp;exact ck h
theorem YH{e:Edition}{m k:Nat}{c:Vbptal.Class}(h:e[k]?=some c):GY e m (k+1)=less (GY e m k) c.mask:=by unfold GY;rw[take_succ h,yt,Xb];simp
theorem fo(e:Edition)(m k:Nat):GY e m k<4096:=YK _ _
theorem Vs(e:Edition)(l:List Nat)(i:Nat):maskOf ((l++[i]).flatMap λi=>topics (own e i))=maskOf (l.flatMap λi=>topics (own e i))||| own e i:=by rw[yt,NG];simp[Nt (fe e i)]
theorem size_le(m:Nat):size m<=12:=by unfold size topics TOPICS;exact xr (yI _ _) (by simp)
noncomputable def narrow(e:Edition)(m k:Nat):List Nat:=(List.range k).filter λi=>within_ m (maskAt e i)
def best(e:Edition)(l:List Nat)(i:Nat):Prop:=i∈l/\∀j∈l,size (maskAt e i)<size (maskAt e j)\/(size (maskAt e i)=size (maskAt e j)/\j<=i)
theorem i2(h:best e l i):(l.find? λi=>l.all λj=>decide (size (maskAt e i)<size (maskAt e j))||(size (maskAt e i)==size (maskAt e j) && decide (j<=i)))=some i:=by
 obtain⟨h1,h2⟩:=h;have pi:(l.all λj=>decide (size (maskAt e i)<size (maskAt e j))||(size (maskAt e i)==size (maskAt e j) && decide (j<=i)))=true:=by rw[xk];intro j q;rcases h2 j q with a|⟨a,b⟩<;> simp_all
 cases e1:l.find? (λi=>l.all λj=>decide (size (maskAt e i)<size (maskAt e j))||(size (maskAt e i)==size (maskAt e j) && decide (j<=i)))with
 |none=>exact absurd pi (AAI.mp e1 i h1)
 |some k=>
  have n:=List.find?_some e1;have mk:=zw e1;rw[xk]at n;have a:=n i h1;have b:=h2 k mk;rw[AAc,x4,yN,yN,zv]at a;have:k=i:=by rcases a with a|⟨a,z⟩<;> rcases b with b|⟨b,B⟩<;> lia
  rw[this]
theorem cX(h:best e (narrow e m e.length) i):holder e m=some i:=i2 h
theorem bI(h:narrow e m e.length=[]):holder e m=none:=by unfold holder;dsimp only;change(narrow e m e.length).find? _=none;rw[h];rfl
theorem VC(h:within_ m (maskAt e k)=true):narrow e m (k+1)=narrow e m k++[k]:=by unfold narrow;rw[zr,yV];simp[h]
theorem jQ(h:within_ m (maskAt e k)=false):narrow e m (k+1)=narrow e m k:=by unfold narrow;rw[zr,yV];simp[h]
theorem i8(h:i∈narrow e m k):i<k:=by unfold narrow at h;simp at h;exact h.1
theorem bK(h:within_ m (maskAt e k)=true)(q:∀j∈narrow e m k,size (maskAt e k)<=size (maskAt e j)):best e (narrow e m (k+1)) k:=by
 rw[VC h];refine⟨by simp,λj n=>?_⟩;rcases xq.mp n with n|n
 .have:=q j n;have:=i8 n;lia
 .simp at n;subst n;lia
theorem iu(h:within_ m (maskAt e k)=true)(q:best e (narrow e m k) b)(z:¬size (maskAt e k)<=size (maskAt e b)):best e (narrow e m (k+1)) b:=by
 rw[VC h];refine⟨y3 _ q.1,λj n=>?_⟩;rcases xq.mp n with n|n
 .exact q.2 j n
 .simp at n;subst n;lia
theorem mw(q:best e (narrow e m k) b)(B:n<=size (maskAt e b)):∀j∈narrow e m k,n<=size (maskAt e j):=by intro j z;rcases q.2 j z with a|⟨a,_⟩<;> lia
theorem QU(c:Nat):∀l:Text,cut c (l++[c])=cut c l++[[]]
 |[]=>by rw[List.nil_append,FJ];rfl
 |x::l=>by
  have j:=QU c l;rw[zT];by_cases h:x=c
  .subst h;rw[FJ,FJ,j];rfl
  .cases e:cut c l with
   |nil=>exact absurd e (EJ c l)
   |cons p r=>rw[e]at j;rw[Df h (p:=p) (r:=r++[[]]) j,Df h e];rfl
theorem Wj(z:x≠c):∀{l:Text}{ps:List Text}{p:Text},cut c l=ps++[p]->cut c (l++[x])=ps++[p++[x]]:=by
 intro l
 induction l with
 |nil=>intro ps p h;obtain⟨rfl,h⟩:=List.append_inj' (s₁:=[]) (t₁:=[[]]) h rfl;cases h;exact Df z (p:=[]) (r:=[]) rfl
 |cons y l n=>
  intro ps p h;by_cases j:y=c
  .subst j;rw[FJ]at h;rw[zT,FJ];cases ps with
   |nil=>exact absurd (ABc h).2 (EJ y l)
   |cons a ps=>obtain⟨h1,h2⟩:=ABc h;rw[n h2,<-h1];rfl
  .cases e:cut c l with
   |nil=>exact absurd e (EJ c l)
   |cons q r=>
    rw[Df j e]at h;cases ps with
    |nil=>obtain⟨h1,h2⟩:=ABc h;rw[h2]at e;exact(Df j (n (ps:=[]) e)).trans (by rw[<-h1];rfl)
    |cons a ps=>obtain⟨h1,h2⟩:=ABc h;rw[h2]at e;exact(Df j (n (ps:=q::ps) e)).trans (by rw[<-h1];rfl)
theorem lG(c:Nat)(l:Text):∃ps p,cut c l=ps++[p]:=⟨_,_,(AAS (EJ c l)).symm⟩
noncomputable def decVal(t:Text):Nat:=t.foldl (λa c=>10*a+(c - 48)) 0
def Dy(t:Text):Int:=if t=[]\/(1<t.length/\t.head?=some 48)\/t.all isDigit=false then -1 else(decVal t:Int)
theorem hW:∀(r:List Nat)(x:Nat),x*10 ^ r.length<=r.foldl (λa c=>10*a+(c - 48)) x
 |[],x=>by simp
 |c::r,x=>by rw[List.foldl_cons,xg];refine xr ?_ (hW r _);rw[za,AAk (10 ^ r.length) 10,<-ABd];exact Nat.mul_le_mul_right _ Om
theorem Li(h:hi<100000)(t:Text):number 0 hi t=if 0<=Dy t/\Dy t<=hi then some (Dy t).toNat else none:=by
 have no:Dy t= -1->none=if 0<=Dy t/\Dy t<=hi then some (Dy t).toNat else none:=λe=>(xJ λq=>by rw[e]at q;exact absurd q.1 Dc).symm
 by_cases h1:t=[]
 .subst h1;rfl
 by_cases h2:t.all isDigit=false
 .exact(xQ (.inr (.inl h2))).trans (no (xQ (.inr (.inr h2))))
 by_cases j:1<t.length/\t.head?=some 48
 .exact(xQ (.inr (.inr (.inr ⟨j.2,yY j.1⟩)))).trans (no (xQ (.inr (.inl j))))
 have I:0<t.length:=List.length_pos_iff.mpr h1;have n:¬(t.head?=some 48/\t.length≠1):=λq=>j ⟨Nat.lt_of_le_of_ne I q.2.symm,q.1⟩;have J:Dy t=decVal t:=xJ λq=>q.elim h1 λq=>q.elim j h2;rw[J];by_cases z:5<t.length
 .refine(xQ (.inr (.inr (.inl z)))).trans (xJ λq=>?_).symm;have q:=ABx.mp q.2;clear J no I n;cases t with
  |nil=>exact h1 rfl
  |cons a r=>
   have N:=(xT.mp (zd h2:(a::r).all isDigit=true)).1;have L:a≠48:=λe=>j ⟨yC Dc (AAP z),x3 some e⟩;have hd:=xI (xT.mp N).1;have O:1<=10*0+(a - 48):=by clear q h2 j z h1;lia
   have U:10 ^ 5<=10 ^ r.length:=zb Dc (Nat.le_of_lt_succ z);have M:=xr (Nat.mul_le_mul_right _ O) (hW r (10*0+(a - 48)));rw[Nat.one_mul]at M;exact absurd (xr (xr U M) q) (Nat.not_le_of_lt h)
 .refine(xJ λq=>q.elim (λq=>h1 (List.isEmpty_iff.mp q)) λq=>q.elim h2 λq=>q.elim z n).trans ?_;show(if 0<=decVal t/\decVal t<=hi then some (decVal t)else none)=_;by_cases B:decVal t<=hi
  .exact(xQ ⟨xi _,B⟩).trans (xQ ⟨zm _,ABx.mpr B⟩).symm
  .exact(xJ λq=>B q.2).trans (xJ λq=>B (ABx.mp q.2)).symm
theorem Nl:∀{l:List Nat}{d:List Int},d=l.map (λ(n:Nat)=>(n:Int))->rising l=upward d
 |[],d,h=>by subst h;rfl
 |[a],d,h=>by subst h;rfl
 |a::b::l,d,h=>by subst h;have j:=Nl (l:=b::l) rfl;show(decide (a<b) && rising (b::l))=(decide ((a:Int)< (b:Int)) && upward ((b:Int)::l.map λ(n:Nat)=>(n:Int)));rw[j];exact x3 (· && _) (decide_eq_decide.mpr Int.ofNat_lt.symm)
def Ft(t:Text):List Int:=(cut 44 t).map Dy
noncomputable def Ek(d:List Int):Bool:=(d.all λv=>decide (0<=v) && decide (v<=11)) && upward d
theorem Zl:∀(l:List Text),allSome (l.map (number 0 11))=if(l.map Dy).all (λv=>decide (0<=v) && decide (v<=11))=true then some (l.map λt=>(Dy t).toNat)else none:=by
 intro l
 induction l with
 |nil=>rfl
 |cons t l j=>
  rw[yE,Li Dc];by_cases h:0<=Dy t/\Dy t<=(11:Nat)
  .rw[xQ h,yE,yn,xR h.1,xR (show Dy t<=11 from h.2)];show(allSome (l.map (number 0 11))).map _=if(l.map Dy).all (λv=>decide (0<=v) && decide (v<=11))=true then _ else _
   rw[j];split<;> rfl
  .rw[xJ h];refine(xJ λq=>h ?_).symm;exact(xT.mp (xT.mp q).1).imp xI xI
theorem WR(t:Text):topicsOf t=if Ek (Ft t)=true then some (maskOf ((Ft t).map Int.toNat))else none:=by
 unfold topicsOf Ek Ft;change(match allSome ((cut 44 t).map (number 0 11))with|none=>none|some l=>if rising l=true then some (maskOf l)else none)=_;rw[Zl];by_cases h:((cut 44 t).map Dy).all (λv=>decide (0<=v) && decide (v<=11))=true
 .rw[xQ h,h];have e:((cut 44 t).map Dy)=((cut 44 t).map λt=>(Dy t).toNat).map (λ(n:Nat)=>(n:Int)):=by
   rw[yg];apply yu;intro x j;have:=xk.mp h (Dy x) (List.mem_map_of_mem j);simp at this;simp;lia
  simp only[yP];rw[Nl e,yg];rfl
 .rw[xJ h];simp only[Bool.not_eq_true]at h;rw[h];simp
def ky(e:Edition)(d:List Int):List Text->Option Vbptal.Class
 |[a]=>some ⟨a,none,maskOf (d.map Int.toNat)⟩
 |[a,b]=>(placeOf e b).map λi=>⟨a,some i,maskOf (d.map Int.toNat)⟩
 |_=>none
def VX(e:Edition)(ps:List Text)(d:List Int):Option Vbptal.Class:=if ps.all isCode=false then none else if Ek d=false then none else ky e d ps
def C5(e:Edition)(t:Text):Option Vbptal.Class:=match cut 61 t with
 |[h,m]=>VX e (cut 60 h) (Ft m)
 |_=>none
theorem Ie{e:Edition}{t h m:Text}(q:cut 61 t=[h,m]):C5 e t=VX e (cut 60 h) (Ft m):=by unfold C5;rw[q]
theorem gA{e:Edition}{t:Text}(q:(cut 61 t).length≠2):C5 e t=none:=by
 unfold C5;generalize cut 61 t=u at q⊢
 match u,q with
 |[_,_],q=>exact absurd rfl q
 |[],_=>rfl
 |[_],_=>rfl
 |_::_::_::_,_=>rfl
theorem Xu{e:Edition}{ps:List Text}{d:List Int}(q:2<ps.length):VX e ps d=none:=by
 have:ky e d ps=none:=by
  match ps,q with
  |_::_::_::_,_=>rfl
 unfold VX;rw[this,ABy,ABy]
theorem Uo{e:Edition}{ps:List Text}{d:List Int}(q:Ek d=false):VX e ps d=none:=by unfold VX;rw[xQ q,ABy]
theorem TM{e:Edition}{ps:List Text}{d:List Int}(h:ps.all isCode=true)(q:Ek d=true):VX e ps d=ky e d ps:=(xJ (by rw[h];exact nofun)).trans (xJ (by rw[q];exact nofun))
noncomputable def Tb(e:Edition)(c:Vbptal.Class):Bool:=(placeOf e c.code).isNone && ((match c.over with
 |none=>true
 |some i=>within_ c.mask (maskAt e i)) && e.all λd=> !(d.over==c.over && meet d.mask c.mask !=0))
def C3(e:Edition)(t:Text):Option Edition:=match C5 e t with
 |none=>none
 |some c=>if Tb e c=true then some (e++[c])else none
theorem iR(p:j->Bool):∀l:List j,l.all (λd=> !p d)= !l.any p
 |[]=>rfl
 |a::l=>by simp[iR p l]
def iA(e:Edition)(c:Vbptal.Class):Option Edition:=if Tb e c=true then some (e++[c])else none
theorem eO(e:Edition)(code:Text)(o:Option Nat)(k:Nat):
  Lh e code o k=if 16<=e.length then none else if isCode code=false then none else iA e ⟨code,o,k⟩:=by
 by_cases j:16<=List.length e
 .exact(xQ (.inr (.inr j))).trans (xQ j).symm
 refine Eq.trans ?_ (xJ j).symm;by_cases n:isCode code=false
 .exact(xQ (.inl n)).trans (xQ n).symm
 refine Eq.trans ?_ (xJ n).symm;unfold iA Tb Lh;rw[iR (λ(d:Vbptal.Class)=>d.over==o && meet d.mask k !=0) e];have j:¬CLASSES<=e.length:=j;generalize e.any (λ(d:Vbptal.Class)=>d.over==o && meet d.mask k !=0)=y;cases placeOf e code with
 |some i=>exact xQ (.inr (.inl rfl))
 |none=>
  refine(xJ (by rintro(q|q|q);exact n q;cases q;exact j q)).trans ?_;cases o with
  |none=>cases y<;> rfl
  |some i=>
   show(if within_ k (maskAt e i)=false then none else _)=if(true && (within_ k (maskAt e i) && !y))=true then _ else _
   cases within_ k (maskAt e i)<;> cases y<;> rfl
theorem Lm(ok:Cc e)(t:Text):added e t=if 16<=e.length then none else C3 e t:=by
 have q:none=if 16<=e.length then none else(none:Option Edition):=(ABy _).symm
 unfold added C3 C5;generalize cut 61 t=u
 match u with
 |[]=>exact q
 |[_]=>exact q
 |_::_::_::_=>exact q
 |[h,m]=>
  have n:=EJ 60 h;have J:=WR m;show(match cut 60 h,topicsOf m with
   |code::rest,some k=>(match XZ e rest with
    |none=>none
    |some o=>Lh e code o k)
   |_,_=>none)=if 16<=e.length then none else match VX e (cut 60 h) (Ft m)with
   |none=>none
   |some c=>iA e c
  rw[J];generalize Ft m=d;generalize cut 60 h=ps at n;cases hd:Ek d with
  |false=>
   rw[Uo hd];cases ps with
   |nil=>exact q
   |cons code rest=>exact q
  |true=>
   have one:∀{code:Text}{o:Option Nat}{x:Option Vbptal.Class},(x=if isCode code=false then none else some ⟨code,o,maskOf (d.map Int.toNat)⟩)->Lh e code o (maskOf (d.map Int.toNat))=if 16<=e.length then none else match x with
     |none=>none
     |some c=>iA e c:=by
    intro code o x L;rw[eO,L];cases isCode code<;> rfl
   match ps,n with
   |[],n=>exact absurd rfl n
   |[code],_=>refine one ?_;unfold VX;rw[xJ (c:=Ek d=false) (by rw[hd];exact nofun),yn,List.all_nil,x2];rfl
   |[code,b],_=>
    cases j:placeOf e b with
    |none=>
     have:ky e d [code,b]=none:=by show(placeOf e b).map _=none;rw[j];rfl
     unfold VX;rw[this,ABy,ABy];show(match (placeOf e b).map some with
      |none=>none
      |some o=>Lh e code o (maskOf (d.map Int.toNat)))=_
     rw[j];exact q
    |some i=>
     obtain⟨M,z,B⟩:=placeOf_some j;have I:isCode b=true:=by rw[<-B];exact(ok.cls i M z).2.2.1
     show(match (placeOf e b).map some with
      |none=>none
      |some o=>Lh e code o (maskOf (d.map Int.toNat)))=_
     rw[j];refine one ?_;have N:ky e d [code,b]=some ⟨code,some i,maskOf (d.map Int.toNat)⟩:=by show(placeOf e b).map _=_;rw[j];rfl
     unfold VX;rw[xJ (c:=Ek d=false) (by rw[hd];exact nofun),N,yn,yn,I,List.all_nil,x2,x2]
   |_::_::_::_,_=>rw[Xu (AAH 3 _)];exact q
noncomputable def Eu:Edition->List Text->Option Edition
 |e,[]=>some e
 |e,t::l=>match C3 e t with
  |none=>none
  |some f=>Eu f l
theorem bA:∀(l:List Text)(e:Edition)(t:Text),Eu e (l++[t])=match Eu e l with
  |none=>none
  |some f=>C3 f t
 |[],e,t=>by show(match C3 e t with|none=>none|some f=>some f)=C3 e t;cases C3 e t<;> rfl
 |a::l,e,t=>by
  show(match C3 e a with|none=>none|some f=>Eu f (l++[t]))=match (match C3 e a with|none=>none|some f=>Eu f l)with|none=>none|some f=>C3 f t
  cases C3 e a with
  |none=>rfl
  |some f=>exact bA l f t
theorem To(ok:Cc e)(j:e.length<16)(h:C3 e t=some f):Cc f/\f.length=e.length+1:=by
 have:added e t=some f:=by rw[Lm ok,xJ Om,h]
 obtain⟨c,h1,h2,_⟩:=Us ok this;exact⟨h2,by rw[h1];simp⟩
theorem KQ:∀{l:List Text}{e:Edition},Cc e->e.length+l.length<=16->editionFrom e l=Eu e l
 |[],e,_,_=>rfl
 |t::l,e,ok,h=>by
  have j:e.length<16:=by simp at h;lia
  show(match added e t with|none=>none|some f=>editionFrom f l)=match C3 e t with|none=>none|some f=>Eu f l
  rw[Lm ok,xJ Om];cases q:C3 e t with
  |none=>rfl
  |some f=>obtain⟨n,z⟩:=To ok j q;exact KQ n (by simp at h;lia)
theorem Ja:∀{l:List Text}{e:Edition},Cc e->16<e.length+l.length->editionFrom e l=none
 |[],e,ok,h=>by have:=ok.len;simp at h;lia
 |t::l,e,ok,h=>by
  show(match added e t with|none=>none|some f=>editionFrom f l)=none;rw[Lm ok];by_cases j:16<=e.length
  .rw[xQ j]
  .rw[xJ j];cases q:C3 e t with
   |none=>rfl
   |some f=>obtain⟨n,z⟩:=To ok Om q;exact Ja n (by simp at h;lia)
theorem mP:∀{l:List Text}{e f:Edition},Cc e->e.length+l.length<=16->Eu e l=some f->Cc f/\f.length=e.length+l.length
 |[],e,f,ok,_,h=>by cases h;exact⟨ok,by simp⟩
 |t::l,e,f,ok,n,h=>by
  have j:e.length<16:=by simp at n;lia
  have h:(match C3 e t with|none=>none|some f=>Eu f l)=some f:=h;cases q:C3 e t with
  |none=>rw[q]at h;cases h
  |some g=>rw[q]at h;obtain⟨z,I⟩:=To ok j q;obtain⟨B,J⟩:=mP z (by simp at n;lia) h;exact⟨B,by simp;lia⟩
theorem WT(t:Text):editionOf t=if(cut 59 t).getLast?=some []/\0< (cut 59 t).dropLast.length/\(cut 59 t).dropLast.length<=16 then Eu [] (cut 59 t).dropLast else none:=by
 unfold editionOf;dsimp only;have n:(cut 59 t).dropLast.length=(cut 59 t).length - 1:=List.length_dropLast ..;by_cases h1:(cut 59 t).getLast?=some []
 .by_cases h2:(cut 59 t).length<=1
  .rw[xQ (Or.inr h2),xJ Om]
  .rw[xJ (by rintro(q|q);exact q h1;exact h2 q)];by_cases j:(cut 59 t).dropLast.length<=16
   .rw[xQ ⟨h1,Om,j⟩,KQ Cc.nil (by simpa using j)]
   .rw[xJ λq=>j q.2.2,Ja Cc.nil (by simp;lia)]
 .rw[xQ (Or.inl h1),xJ λq=>h1 q.1]
def kA:Query->Prop
 | .topic m=>m<4096
 | .word w=>w<6
 | .until d=>d<=999
 | .since d=>d<=999
 | .not a=>kA a
 | .and a b=>kA a/\kA b
 | .or a b=>kA a/\kA b
structure GQ(p:Vbptal.Paper):Prop where
 day:p.day<=999
 up:p.words.Pairwise (· < ·)
 tP:∀w∈p.words,w<6
 Wh:p.marks.length<=3
 mlt:∀m∈p.marks,m<4096/\m≠0
noncomputable def Th:Query->Nat
 | .until _=>1
 | .since _=>1
 | .not a=>Th a
 | .and a b=>Th a+Th b
 | .or a b=>Th a+Th b
 |_=>0
structure YF(n:Nat)(np:Nat)(a:Asked):Prop where
 ed:a.edition<n
 len:a.text.length<=60
 q:kA a.query
 told:∀i∈a.told,i<np
 nd:a.told.Nodup
 Wh:Th a.query<=12
 wt:weight a.query<=60
structure B8(s:State):Prop where
 Eu:s.editions.length<=4
 II:∀e∈s.editions,Cc e
 Vk:s.papers.length<=12
 Fy:∀p∈s.papers,GQ p
 places:s.asked.length=4
 KU:∀a,some a∈s.asked->YF s.editions.length s.papers.length a
theorem B8.start:B8 Vbptal.start:=by refine⟨Dc,by simp[Vbptal.start],Dc,by simp[Vbptal.start],Dc,λa h=>?_⟩;simp[Vbptal.start,PLACES]at h
theorem ju{lo hi:Nat}{t:Text}{n:Nat}(h:number lo hi t=some n):n<=hi:=by
 unfold number at h;split at h
 .cases h
 .dsimp only at h;split at h
  .rename_i j;have:=xn h;lia
  .cases h
noncomputable def B1(x:Nat):Bool:=isCapital x|| isDigit x
def md(e:Edition)(t:Text):Option (Query×Text):=(placeOf e (t.takeWhile B1)).map λi=>
 if(t.drop (t.takeWhile B1).length).head?=some 33 then(.topic (own e i),(t.drop (t.takeWhile B1).length).tail)else(.topic (maskAt e i),t.drop (t.takeWhile B1).length)
theorem QB{e:Edition}{f c:Nat}{t:Text}(j:c≠35)(n:c≠60)(B:c≠62)(I:c≠45)(J:c≠40):Vbptal.read e (f+1) (c::t)=md e (c::t):=by
 refine(xJ j).trans ((xJ n).trans ((xJ B).trans ((xJ I).trans ((xJ J).trans ?_))));unfold md;show Vbptal.read.match_5 (λ_ _=>Option (Query×Text)) (placeOf e ((c::t).takeWhile B1)) ((c::t).drop ((c::t).takeWhile B1).length) (λi q=>some (Query.topic (own e i),q)) (λi q=>some (Query.topic (maskAt e i),q)) (λ_=>none)=_;generalize placeOf e ((c::t).takeWhile B1)=o;generalize(c::t).drop ((c::t).takeWhile B1).length=z;cases o with
 |none=>rfl
 |some i=>
  cases z with
  |nil=>rfl
  |cons x z=>
   by_cases h:x=33
   .subst h;rfl
   .exact Eq.trans (b:=some (Query.topic (maskAt e i),x::z)) (by delta Vbptal.read.match_5;exact dif_neg h) (x3 some (xJ λq=>h (xn q)).symm)
noncomputable def pG(a:Query)(s:Nat):Option (Query×Text)->Option (Query×Text)
 |some (b,41::z)=>if s=38 then some (.and a b,z)else if s=124 then some (.or a b,z)else none
 |_=>none
def nv(g:Text->Option (Query×Text)):Option (Query×Text)->Option (Query×Text)
 |some (a,s::q)=>pG a s (g q)
 |_=>none
theorem gD{g:Text->Option (Query×Text)}{x:Option (Query×Text)}{q:Query}{r:Text}(h:nv g x=some (q,r)):
  ∃a s j b,x=some (a,s::j)/\g j=some (b,41::r)/\(s=38/\q=.and a b\/s=124/\q=.or a b):=by
 match x with
 |none=>cases h
 |some (a,[])=>cases h
 |some (a,s::j)=>
  refine⟨a,s,j,?_⟩;have h:pG a s (g j)=some (q,r):=h;generalize g j=y at h⊢;unfold pG at h;split at h
  .split at h
   .cases h;exact⟨_,rfl,rfl,.inl ⟨by assumption,rfl⟩⟩
   .split at h
    .cases h;exact⟨_,rfl,rfl,.inr ⟨by assumption,rfl⟩⟩
    .cases h
  .cases h
theorem kq{g:Text->Option (Query×Text)}{a b Q:Query}{s:Nat}{j z:Text}(h:g j=some (b,41::z))(n:(if s=38 then some (Query.and a b,z)else if s=124 then some (.or a b,z)else none)=some (Q,z)):nv g (some (a,s::j))=some (Q,z):=by show pG a s (g j)=_;rw[h];exact n
theorem dH{e:Edition}(M:Text->Query->Text->Prop)
  (num:∀(c:Nat)(t:Text)(hi w:Nat)(k:Nat->Query),number 0 hi (t.takeWhile isDigit)=some w->(hi=5/\k=.word\/hi=999/\(k=.until\/k=.since))->M (c::t) (k w) (t.drop (t.takeWhile isDigit).length))
  (neg:∀(c:Nat)(t:Text)(q:Query)(r:Text),M t q r->M (c::t) (.not q) r)
  (bin:∀(c s d:Nat)(t n r:Text)(a b:Query)(k:Query->Query->Query),M t a (s::n)->M n b (d::r)->(k=.and\/k=.or)->M (c::t) (k a b) r)
  (cls:∀(t:Text)(q:Query)(r:Text),md e t=some (q,r)->M t q r):∀(f:Nat)(t:Text)(q:Query)(r:Text),Vbptal.read e f t=some (q,r)->M t q r:=by
 intro f
 induction f with
 |zero=>intro _ _ _ h;cases h
 |succ f z=>
  intro t q r h;cases t with
  |nil=>cases h
  |cons c t=>
   have nm:∀{hi:Nat}{k:Nat->Query},(number 0 hi (t.takeWhile isDigit)).map (λw=>(k w,t.drop (t.takeWhile isDigit).length))=some (q,r)->(hi=5/\k=.word\/hi=999/\(k=.until\/k=.since))->M (c::t) q r:=by intro hi k h N;obtain⟨w,O,e1⟩:=xu.mp h;cases e1;exact num c t hi w k O N
   by_cases j:c=35
   .exact nm ((xQ j).symm.trans h) (.inl ⟨rfl,rfl⟩)
   by_cases B:c=60
   .exact nm (((xJ j).trans (xQ B)).symm.trans h) (.inr ⟨rfl,.inl rfl⟩)
   by_cases I:c=62
   .exact nm (((xJ j).trans ((xJ B).trans (xQ I))).symm.trans h) (.inr ⟨rfl,.inr rfl⟩)
   by_cases J:c=45
   .subst J;obtain⟨x,U,e1⟩:=xu.mp h;cases e1;exact neg _ _ _ _ (z _ _ _ U)
   by_cases L:c=40
   .subst L;obtain⟨a,s,n,b,h1,h2,Y⟩:=gD (g:=Vbptal.read e f) (x:=Vbptal.read e f t) h;have h1:=z _ _ _ h1;have h2:=z _ _ _ h2;rcases Y with⟨_,rfl⟩|⟨_,rfl⟩
    .exact bin _ _ _ _ _ _ _ _ _ h1 h2 (.inl rfl)
    .exact bin _ _ _ _ _ _ _ _ _ h1 h2 (.inr rfl)
   .rw[QB j B I J L]at h;exact cls _ _ _ h
theorem gF{e:Edition}{t r:Text}{q:Query}(h:md e t=some (q,r)):∃i m,placeOf e (t.takeWhile B1)=some i/\q=.topic m/\(m=own e i\/m=maskAt e i)/\r.length<=(t.drop (t.takeWhile B1).length).length:=by
 obtain⟨i,j,n⟩:=xu.mp h;by_cases hz:(t.drop (t.takeWhile B1).length).head?=some 33
 .cases(xQ hz).symm.trans n;refine⟨i,_,j,rfl,.inl rfl,?_⟩;rw[AA6];exact Nat.sub_le ..
 .cases(xJ hz).symm.trans n;exact⟨i,_,j,rfl,.inr rfl,xZ _⟩
theorem pI(ok:Cc e):∀(f:Nat)(t:Text)(q:Query)(r:Text),Vbptal.read e f t=some (q,r)->kA q:=by
 refine dH (λ_ q _=>kA q) ?_ (λ_ _ _ _ h=>h) ?_ ?_
 .intro c t hi w k n j;have:=ju n;rcases j with⟨rfl,rfl⟩|⟨rfl,rfl|rfl⟩
  .exact ABj this
  .exact this
  .exact this
 .intro c s d t z r a b k h1 h2 j;rcases j with rfl|rfl<;> exact⟨h1,h2⟩
 .intro t q r h;obtain⟨i,m,_,rfl,h,_⟩:=gF h;rcases h with rfl|rfl
  .exact fe _ _
  .exact Xv ok _
theorem La{e:Edition}{t:Text}{q:Query}(h:queryOf e t=some q):Vbptal.read e DEPTH t=some (q,[]):=by
 unfold queryOf at h;generalize Vbptal.read e DEPTH t=x at h⊢
 match x,h with
 |some (_,[]),h=>cases h;rfl
theorem ee(ok:Cc e)(h:queryOf e t=some q):kA q:=pI ok _ _ _ _ (La h)
theorem drop_len(p:Nat->Bool)(t:Text):(t.takeWhile p).length+(t.drop (t.takeWhile p).length).length=t.length:=by have:(t.takeWhile p).length<=t.length:=(List.takeWhile_sublist _).length_le;rw[zh];lia
theorem dz{lo hi:Nat}{t:Text}{n:Nat}(h:number lo hi t=some n):1<=t.length:=by
 cases t with
 |nil=>simp[number]at h
 |cons a t=>simp
theorem lT(ok:Cc e):∀(f:Nat)(t:Text)(q:Query)(r:Text),Vbptal.read e f t=some (q,r)->5*Th q+r.length<=t.length+3/\weight q+r.length<=t.length:=by
 refine dH (λt q r=>5*Th q+r.length<=t.length+3/\weight q+r.length<=t.length) ?_ ?_ ?_ ?_
 .intro c t hi w k J B;have h1:=drop_len isDigit t;have h2:=dz J;have I:Th (k w)<=1/\weight (k w)=1:=by rcases B with⟨_,rfl⟩|⟨_,rfl|rfl⟩<;> exact⟨Nat.le_of_ble_eq_true rfl,rfl⟩
  clear B J;rw[xg];lia
 .intro c t q r h;exact⟨AAt h.1,by rw[show weight q.not+r.length=weight q+r.length+1 from Nat.succ_add ..];exact Nat.succ_le_succ h.2⟩
 .intro c s d t O r a b k h1 h2 B;have I:Th (k a b)=Th a+Th b/\weight (k a b)=weight a+weight b+1:=by rcases B with rfl|rfl<;> exact⟨rfl,rfl⟩
  rw[I.1,I.2];clear B I;simp only[xg]at h1 h2⊢;lia
 .intro t q r h;obtain⟨i,m,M,rfl,_,h⟩:=gF h;have J:=drop_len B1 t;obtain⟨N,L,j⟩:=placeOf_some M;have n:=(ok.cls i N L).2.2.1;rw[j]at n;have:(t.takeWhile B1).length≠0:=λz=>by rw[yR.mp z]at n;cases n
  have I:Th (.topic m)=0/\weight (.topic m)=1:=⟨rfl,rfl⟩;lia
theorem R1(ok:Cc e)(h:queryOf e t=some q):5*Th q<=t.length+3/\weight q<=t.length:=lT ok _ _ _ _ (La h)
theorem Ld:∀{w:List Int},upward w=true->(∀x∈w,0<=x)->(nats w).Pairwise (· < ·)
 |[],_,_=>.nil
 |[a],_,_=>by simp[nats]
 |a::b::l,h,j=>by
  unfold upward at h;simp at h;have q:=Ld (w:=b::l) h.2 (λx z=>j x (xY _ z));have I:=j a (by simp);have J:=j b (by simp);refine yS.mpr ⟨λy B=>?_,q⟩;have n:=yS.mp (show(b.toNat::nats l).Pairwise (· < ·)from q);rcases xb.mp (show y∈b.toNat::nats l from B)with e|e
  .subst e;lia
  .have:=n.1 y e;lia
theorem Jm(ok:B8 s)(n:GQ x):B8 (withPaper s p x):=by
 refine⟨ok.Eu,ok.II,by unfold withPaper;rw[zZ];exact ok.Vk,λq j=>?_,ok.places,λa z=>?_⟩
 .unfold withPaper at j;rcases zx j with h|h
  .exact ok.Fy q h
  .rw[h];exact n
 .have:=ok.KU a z;exact⟨this.ed,this.len,this.q,λi hi=>by unfold withPaper;rw[zZ];exact this.told i hi,this.nd,this.Wh,this.wt⟩
theorem DD{j:Type}{l:List j}{i:Nat}{x:j}(h:l[i]?=some x):x∈l:=xO h
theorem FE{s:State}(ok:B8 s){e c:Int}{f:Edition->Vbptal.Class->State×Answer}(h:∀x y,x∈s.editions->Cc x->x[c.toNat]?=some y->B8 (f x y).1):B8 (onClass s e c f).1:=by
 unfold onClass editionAt;cases h1:s.editions[e.toNat]? with
 |none=>exact ok
 |some x=>
  cases h2:x[c.toNat]? with
  |none=>simp only[h2];exact ok
  |some y=>simp only[h2];exact h x y (DD h1) (ok.II x (DD h1)) h2
theorem Dm{s:State}(ok:B8 s){e:Int}{f:Edition->State×Answer}(h:∀x,s.editions[e.toNat]?=some x->Cc x->B8 (f x).1):B8 (onEdition s e f).1:=by
 unfold onEdition editionAt;cases h1:s.editions[e.toNat]? with
 |none=>exact ok
 |some x=>exact h x h1 (ok.II x (DD h1))
theorem Gn{s:State}(ok:B8 s){p:Int}{f:Vbptal.Paper->State×Answer}(h:∀x,x∈s.papers->GQ x->B8 (f x).1):B8 (onPaper s p f).1:=by
 unfold onPaper paperAt;cases h1:s.papers[p.toNat]? with
 |none=>exact ok
 |some x=>exact h x (DD h1) (ok.Fy x (DD h1))
theorem EI{s:State}(ok:B8 s){k:Int}{f:Asked->State×Answer}(h:∀a,some a∈s.asked->YF s.editions.length s.papers.length a->B8 (f a).1):B8 (onAsked s k f).1:=by
 unfold onAsked askedAt;cases h1:s.asked[k.toNat]? with
 |none=>exact ok
 |some o=>
  cases o with
  |none=>exact ok
  |some a=>exact h a (DD h1) (ok.KU a (DD h1))
theorem WH(h:i∈papersWith s q n):i<s.papers.length:=by unfold papersWith at h;simp at h;exact h.1
theorem ins{x lo hi:Int}(h:inside x lo hi=true):lo<=x/\x<=hi:=(xT.mp h).imp xI xI
theorem rD(ok:B8 s)(c:Vbptal.Call)(J:inRange c=true):B8 (act s c).1:=by
 cases c with
 |edition t=>
  unfold act;dsimp only;split
  .exact ok
  .rename_i N;split
   .exact ok
   .rename_i e he;refine⟨by rw[xS];exact AAV N,λx I=>?_,ok.Vk,ok.Fy,ok.places,λa O=>?_⟩
    .rcases xq.mp I with h|h
     .exact ok.II x h
     .rw[yD.mp h];exact(MP he).1
    .have:=ok.KU a O;exact⟨by rw[xS];exact yW this.ed,this.len,this.q,this.told,this.nd,this.Wh,this.wt⟩
 |text e=>exact Dm ok λ_ _ _=>ok
 |class_ e c=>exact FE ok λ_ _ _ _ _=>ok
 |concord e c f=>exact FE ok λ_ _ _ _ _=>Dm ok λ_ _ _=>ok
 |through e f g c=>exact FE ok λ_ _ _ _ _=>Dm ok λ_ _ _=>Dm ok λ_ _ _=>ok
 |holder e c f=>exact FE ok λ_ _ _ _ _=>Dm ok λ_ _ _=>ok
 |paper d w m=>
  unfold act;dsimp only;split
  .exact ok
  .rename_i N;split
   .exact ok
   .rename_i e he;have M:e∈s.editions:=ABH he;have n:=ok.II e M;split
    .exact ok
    .rename_i hc;have aa:(m.all λc=>decide (c.toNat<e.length))=true:=zd hc;obtain⟨hd,J⟩:=xT.mp J;obtain⟨Y,J⟩:=xT.mp J;obtain⟨hu,J⟩:=xT.mp J;have hd:=ins hd;have ab:=xI (xT.mp J).1;have Y:=λx I=>ins (xk.mp Y x I);refine⟨ok.Eu,ok.II,by rw[xS];exact AAV N,λp hp=>?_,ok.places,λa O=>?_⟩
     .rcases xq.mp hp with h|h
      .exact ok.Fy p h
      .cases yD.mp h;refine⟨by show d.toNat<=999;lia,Ld hu λx I=>(Y x I).1,λx I=>?_,by show(m.map _).length<=3;rw[xH];exact ab,λx I=>?_⟩
       .obtain⟨y,L,e1⟩:=x5.mp (show x∈w.map Int.toNat from I);have:=Y y L;lia
       .obtain⟨c,ae,e1⟩:=x5.mp I;have af:=xI (xk.mp aa c ae);subst e1;have hg:e[c.toNat]?=some e[c.toNat]:=xW af;rw[Dl hg];exact⟨(n.cls _ _ hg).1,(n.cls _ _ hg).2.1⟩
     .have:=ok.KU a O;exact⟨this.ed,this.len,this.q,λi hi=>by rw[xS];exact yW (this.told i hi),this.nd,this.Wh,this.wt⟩
 |mark p e c=>
  refine Gn ok λx _ z=>FE ok λed y _ n L=>?_;split
  .exact ok
  .rename_i N;refine Jm ok ⟨z.day,z.up,z.tP,by rw[xS];exact AAV N,λm M=>?_⟩;rcases xq.mp M with h|h
   .exact z.mlt m h
   .rw[yD.mp h];exact⟨(n.cls _ _ L).1,(n.cls _ _ L).2.1⟩
 |remark p i e c=>
  refine Gn ok λx _ z=>FE ok λed y _ n L=>?_;split
  .exact ok
  .rename_i m M;split
   .exact ok
   .rename_i ag;refine Jm ok ⟨z.day,z.up,z.tP,by rw[zZ];exact z.Wh,λm' ah=>?_⟩;rcases zx ah with h|h
    .exact z.mlt m' h
    .rw[h];exact⟨oE _ _,ag⟩
 |unmark p i=>
  refine Gn ok λx _ z=>?_;split
  .exact ok
  .refine Jm ok ⟨z.day,z.up,z.tP,xr (List.length_eraseIdx_le ..) z.Wh,λm M=>z.mlt m (List.mem_of_mem_eraseIdx M)⟩
 |told p=>exact Gn ok λ_ _ _=>ok
 |ask k e t=>
  refine Dm ok λx I n=>?_;split
  .exact ok
  .rename_i q hq;have J:=xI (xT.mp (xT.mp (xT.mp J).2).2).1;refine⟨ok.Eu,ok.II,ok.Vk,ok.Fy,by rw[zZ];exact ok.places,λa O=>?_⟩;rcases zx O with h|h
   .exact ok.KU a h
   .have:=xn h;subst this;have U:(nats t).length<=60:=by unfold nats;rw[xH];exact J
    have ai:=R1 n hq;exact⟨(xP.mp I).1,U,ee n hq,λi hi=>(yh hi).elim,ACF,by show Th q<=12;lia,by show weight q<=60;lia⟩
 |asks k=>exact EI ok λ_ _ _=>ok
 |find k=>exact EI ok λ_ _ _=>ok
 |likely k p=>exact EI ok λ_ _ _=>Gn ok λ_ _ _=>ok
 |ranked k=>exact EI ok λ_ _ _=>ok
 |same j k=>exact EI ok λ_ _ _=>EI ok λ_ _ _=>ok
 |news k=>
  refine EI ok λa _ B=>?_;dsimp only;refine⟨ok.Eu,ok.II,ok.Vk,ok.Fy,by rw[zZ];exact ok.places,λb hb=>?_⟩;rcases zx hb with h|h
  .exact ok.KU b h
  .have:=xn h;subst this;refine⟨B.ed,B.len,B.q,λi hi=>?_,?_,B.Wh,B.wt⟩
   .rcases xq.mp hi with h|h
    .exact B.told i h
    .exact WH (yH.mp h).1
   .dsimp only;rw[yX];refine⟨B.nd,zc _ (zc _ List.nodup_range),λx I y L e=>?_⟩;have:=(yH.mp L).2;rw[<-e,zX.mpr I]at this;cases this
 |counts=>exact ok
theorem pJ(ok:B8 s)(c:List (List Int)):B8 (Vbptal.step s c).1:=by
 unfold Vbptal.step;split
 .exact ok
 .split
  .exact ok
  .rename_i h;exact rD ok _ (by simpa using h)
noncomputable def after(s:State)(j:List (List (List Int))):State:=j.foldl (λs c=>(Vbptal.step s c).1) s
noncomputable def D6(s:State)(j:List (List (List Int))):List Int:=PyFlat.told (PyFlat.played Vbptal.step s j)
theorem SW:∀(j:List (List (List Int)))(s:State)(c:List (List Int)),PyFlat.played Vbptal.step s (j++[c])=PyFlat.played Vbptal.step s j++[(Vbptal.step (after s j) c).2]
 |[],_,_=>rfl
 |a::j,s,c=>by show(Vbptal.step s a).2::PyFlat.played Vbptal.step (Vbptal.step s a).1 (j++[c])=(Vbptal.step s a).2::(PyFlat.played Vbptal.step (Vbptal.step s a).1 j++[(Vbptal.step (after s (a::j)) c).2]);rw[SW j];rfl
theorem NI(s:State)(j:List (List (List Int)))(c:List (List Int)):D6 s (j++[c])=D6 s j++(((Vbptal.step (after s j) c).2.length:Int)::(Vbptal.step (after s j) c).2):=by unfold D6 PyFlat.told;rw[SW,yt];simp
theorem dW(s:State)(j:List (List (List Int)))(c:List (List Int)):after s (j++[c])=(Vbptal.step (after s j) c).1:=by unfold after;rw[AAO];rfl
theorem UO:∀(j:List (List (List Int))){s:State},B8 s->B8 (after s j)
 |[],_,ok=>ok
 |c::j,s,ok=>UO j (pJ ok c)
theorem ff{l:List Int}{j:List (List (List Int))}(h:PyVbptal.calls l=some j):PyVbptal.answers l=D6 Vbptal.start j:=by unfold PyVbptal.answers;rw[h];rfl
theorem eL{l:List Int}(h:PyVbptal.answers_asked l=true):∃j,PyVbptal.calls l=some j/\j.length<=400/\(∀c∈j,VbptalNeutral.asked1 c=true):=by
 unfold PyVbptal.answers_asked at h;split at h
 .cases h
 .rename_i j n;rw[x4]at h;refine⟨j,n,by unfold PyFlat.atMost at h;simpa using h.1,?_⟩;have:=h.2;unfold VbptalNeutral.asked at this;rw[x4]at this;exact xk.mp this.1
noncomputable def tag:Vbptal.Call->Nat
 | .edition _=>0| .text _=>1| .class_ _ _=>2| .concord _ _ _=>3| .through _ _ _ _=>4| .holder _ _ _=>5| .paper _ _ _=>6| .mark _ _ _=>7| .remark _ _ _ _=>8| .unmark _ _=>9
 | .told _=>10| .ask _ _ _=>11| .asks _=>12| .find _=>13| .likely _ _=>14| .ranked _=>15| .same _ _=>16| .news _=>17| .counts=>18
noncomputable def nums:Vbptal.Call->List Int
 | .edition _=>[]| .text e=>[e]| .class_ e c=>[e,c]| .concord e c f=>[e,c,f]| .through e f g c=>[e,f,g,c]| .holder e c f=>[e,c,f]| .paper d _ _=>[d]| .mark p e c=>[p,e,c]| .remark p i e c=>[p,i,e,c]| .unmark p i=>[p,i]
 | .told p=>[p]| .ask k e _=>[k,e]| .asks k=>[k]| .find k=>[k]| .likely k p=>[k,p]| .ranked k=>[k]| .same j k=>[j,k]| .news k=>[k]| .counts=>[]
noncomputable def Bi:Vbptal.Call->List (List Int)
 | .edition t=>[t]| .paper _ w m=>[w,m]| .ask _ _ t=>[t]|_=>[]
def enc(d:Vbptal.Call):List (List Int):=((tag d:Int)::nums d)::Bi d
theorem len0{j:Type}{l:List j}(h:l.length=0):l=[]:=yR.mp h
theorem kU{j:Type}{l:List j}{n:Nat}(h:l.length=n+1):∃a t,l=a::t/\t.length=n:=by
 cases l with
 |nil=>cases h
 |cons a t=>exact⟨a,t,rfl,Nat.succ.inj h⟩
theorem jN{j:Type}{l:List j}(h:l.length=1):∃a,l=[a]:=List.length_eq_one_iff.mp h
theorem cq{j:Type}{l:List j}(h:l.length=2):∃a b,l=[a,b]:=by obtain⟨a,t,rfl,g⟩:=kU h;obtain⟨b,rfl⟩:=jN g;exact⟨a,b,rfl⟩
def si(x:Int×Nat×Nat):Prop:=∀(a:List Int)(xs:List (List Int)),a.length=x.2.1->xs.length=x.2.2->∃d,(x.1::a)::xs=enc d
def sT:List (Int×Nat×Nat)->Prop
 |[]=>True
 |x::T=>si x/\sT T
theorem wz{p:Int}{A B:Nat}(T:List (Int×Nat×Nat))(h:sT T)(g:T.foldr (λx r=>if p=x.1 then some x.2 else r) none=some (A,B)):si (p,A,B):=by
 induction T with
 |nil=>cases g
 |cons x T j=>
  by_cases e:p=x.1
  .have n:=xn ((xQ e).symm.trans g);subst e;cases x;cases n;exact h.1
  .exact j h.2 ((xJ e).symm.trans g)
section
variable{k:Int}
theorem sj(f:Int->Vbptal.Call)(g:∀x,[[k,x]]=enc (f x)):si (k,1,0):=by intro a xs h h2;obtain⟨x,rfl⟩:=jN h;cases len0 h2;exact⟨_,g x⟩
theorem u1(f:Int->Int->Vbptal.Call)(g:∀x y,[[k,x,y]]=enc (f x y)):si (k,2,0):=by intro a xs h h2;obtain⟨x,y,rfl⟩:=cq h;cases len0 h2;exact⟨_,g x y⟩
theorem vW(f:Int->Int->Int->Vbptal.Call)(g:∀x y z,[[k,x,y,z]]=enc (f x y z)):si (k,3,0):=by intro a xs h h2;obtain⟨x,a,rfl,q⟩:=kU h;obtain⟨y,z,rfl⟩:=cq q;cases len0 h2;exact⟨_,g x y z⟩
theorem wg(f:Int->Int->Int->Int->Vbptal.Call)(g:∀x y z u,[[k,x,y,z,u]]=enc (f x y z u)):si (k,4,0):=by intro a xs h h2;obtain⟨x,a,rfl,q⟩:=kU h;obtain⟨y,a,rfl,r⟩:=kU q;obtain⟨z,u,rfl⟩:=cq r;cases len0 h2;exact⟨_,g x y z u⟩
end
theorem qF:sT [(0,0,1),(1,1,0),(2,2,0),(3,3,0),(4,4,0),(5,3,0),(6,1,2),(7,3,0),(8,4,0),(9,2,0),(10,1,0),(11,2,1),(12,1,0),(13,1,0),(14,2,0),(15,1,0),(16,2,0),(17,1,0),(18,0,0)]:=by
 refine⟨λa xs h h2=>?_,sj .text λ_=>rfl,u1 .class_ λ_ _=>rfl,vW .concord λ_ _ _=>rfl,wg .through λ_ _ _ _=>rfl,vW .holder λ_ _ _=>rfl,λa xs h h2=>?_,vW .mark λ_ _ _=>rfl,wg .remark λ_ _ _ _=>rfl,u1 .unmark λ_ _=>rfl,sj .told λ_=>rfl,λa xs h h2=>?_,sj .asks λ_=>rfl,sj .find λ_=>rfl,u1 .likely λ_ _=>rfl,sj .ranked λ_=>rfl,u1 .same λ_ _=>rfl,sj .news λ_=>rfl,λa xs h h2=>?_,trivial⟩
 .cases len0 h;obtain⟨x,rfl⟩:=jN h2;exact⟨.edition x,rfl⟩
 .obtain⟨x,rfl⟩:=jN h;obtain⟨y,z,rfl⟩:=cq h2;exact⟨.paper x y z,rfl⟩
 .obtain⟨x,y,rfl⟩:=cq h;obtain⟨z,rfl⟩:=jN h2;exact⟨.ask x y z,rfl⟩
 .cases len0 h;cases len0 h2;exact⟨.counts,rfl⟩
theorem UB(h:PyFlat.okCall PyVbptal.shape c):∃d,c=enc d:=by obtain⟨p,a,xs,rfl,j⟩:=h;exact wz _ qF j a xs rfl rfl
theorem iz(d:Vbptal.Call):PyVbptal.whole (enc d)=enc d:=by cases d<;> rfl
theorem eh(h:PyVbptal.calls l=some j):l=PyFlat.put j/\∀c∈j,PyFlat.okCall PyVbptal.shape c:=by
 unfold PyVbptal.calls at h;split at h
 .cases h
 .rename_i ds hd;have e:ds.map PyVbptal.whole=j:=xn h;have n:=PyFlat.put_calls _ _ _ hd;have q:ds=j:=by
   rw[<-e]
   conv=>lhs;rw[<-ACC ds]
   refine yu λc z=>?_;obtain⟨d,rfl⟩:=UB (n.2 c z);exact(iz d).symm
  subst q;exact n
theorem fE(d:Vbptal.Call):decode (enc d)=some d:=by cases d<;> rfl
def small(d:Vbptal.Call):Prop:=∀r∈Bi d,r.length<=400
theorem Yb{a:Bool}{t:List Int}(h:(a && decide (t.length<=400))=true):t.length<=400:=xI (xT.mp h).2
theorem b3(h:VbptalNeutral.asked1 (enc d)=true):small d:=by
 intro r j;cases d with
 |edition t=>cases yD.mp j;exact Yb h
 |paper x w m=>
  obtain⟨h1,h2⟩:=xT.mp (xT.mp h).2;rcases xb.mp j with e|j
  .cases e;exact Yb h1
  .cases yD.mp j;exact Yb h2
 |ask k e t=>cases yD.mp j;exact Yb (xT.mp (xT.mp h).2).2
 |_=>exact(yh j).elim
theorem handed(h:PyVbptal.answers_asked l=true):∃ds:List Vbptal.Call,l=PyFlat.put (ds.map enc)/\ds.length<=400/\(∀d∈ds,small d)/\PyVbptal.answers l=D6 Vbptal.start (ds.map enc):=by
 obtain⟨j,h1,h2,z⟩:=eL h;obtain⟨B,I⟩:=eh h1;have:∀(j:List (List (List Int))),(∀c∈j,PyFlat.okCall PyVbptal.shape c)->∃ds:List Vbptal.Call,j=ds.map enc:=by
  intro j
  induction j with
  |nil=>intro _;exact⟨[],rfl⟩
  |cons c j J=>intro q;obtain⟨d,hd⟩:=UB (q c (xl ..));obtain⟨ds,n⟩:=J λc L=>q c (xY _ L);exact⟨d::ds,by rw[hd,n];rfl⟩
 obtain⟨ds,rfl⟩:=this j I;refine⟨ds,B,by simpa using h2,λd hd=>b3 (z _ (List.mem_map_of_mem hd)),ff h1⟩
inductive Sg where
 |topics (m:Nat)
 |word (w:Nat)
 |until (d:Nat)
 |since (d:Nat)
 |not
 |amp
 |bar
 |opn
 |cls
 deriving DecidableEq
noncomputable def Bg(c:Nat):Option Sg:=if c=38 then some .amp else if c=40 then some .opn else if c=41 then some .cls else if c=45 then some .not else if c=124 then some .bar else none
noncomputable def BJ(c:Nat):Bool:=isCapital c||(isDigit c|| decide (c=33))
noncomputable def alone(row:Text):Bool:=decide (row.getLast?=some 33)
def FK(e:Edition)(row:Text):Option Sg:=
 (placeOf e (if alone row=true then row.dropLast else row)).map λi=>.topics (if alone row=true then own e i else maskAt e i)
def C8(e:Edition)(c:Nat)(r:Text):Option Sg:=match Bg c with
 |some s=>some s
 |none=>if c=35 then(number 0 5 r).map .word else if c=60 then(number 0 999 r).map .until else if c=62 then(number 0 999 r).map .since else FK e (c::r)
def Bk(c:Nat)(t:Text):Text:=if(Bg c).isSome=true then[]else t.takeWhile BJ
theorem i5(c:Nat)(t:Text):(Bk c t).length<=t.length:=by
 unfold Bk;split
 .simp
 .exact(List.takeWhile_sublist _).length_le
def signs(e:Edition)(t:Text):Option (List Sg):=match t with
 |[]=>some []
 |c::r=>match C8 e c (Bk c r)with
  |none=>none
  |some s=>(signs e (r.drop (Bk c r).length)).map λl=>s::l
termination_by t.length
decreasing_by exact ABj (by rw[zh];exact Nat.sub_le ..)
theorem Xi(e:Edition):signs e []=some []:=by rw[signs]
theorem VL(e:Edition)(c:Nat)(r:Text):signs e (c::r)=match C8 e c (Bk c r)with
  |none=>none
  |some s=>(signs e (r.drop (Bk c r).length)).map λl=>s::l:=by rw[signs]
def clean:Text->Bool
 |[]=>true
 |c::_=> !BJ c
theorem Ci(h:n.all p=true)(j:∀c z,r=c::z->p c=false):(n++r).takeWhile p=n:=by
 induction n with
 |nil=>
  cases r with
  |nil=>rfl
  |cons c z=>simp[j c z rfl]
 |cons a n q=>simp only[yn,x4]at h;rw[zT,yp h.1,q h.2]
theorem N8(h:clean r=true):∀c z,r=c::z->BJ c=false:=by rintro c z rfl;simpa[clean]using h
theorem fL(h:isDigit c=true):BJ c=true:=by unfold BJ;simp[h]
theorem Ym(h:BJ c=false):isDigit c=false/\isCapital c=false/\c≠33:=by unfold BJ at h;simp at h;exact⟨h.2.1,h.1,h.2.2⟩
theorem fc{lo hi:Nat}{t:Text}{n:Nat}(h:number lo hi t=some n):t.all isDigit=true:=by
 unfold number at h;split at h
 .cases h
 .rename_i q;cases z:t.all isDigit with
  |true=>rfl
  |false=>exact absurd (.inr (.inl z)) q
theorem iP{p q:Nat->Bool}{l:Text}(h:l.all p=true)(f:∀x,p x=true->q x=true):l.all q=true:=
 xk.mpr λx j=>f x (xk.mp h x j)
theorem CJ(p:Nat->Bool)(t:Text):t.takeWhile p++t.drop (t.takeWhile p).length=t:=by
 induction t with
 |nil=>rfl
 |cons a t j=>
  by_cases h:p a=true
  .rw[yp h];simp[j]
  .rw[y9 h];simp
theorem takeWhile_all(p:Nat->Bool)(t:Text):(t.takeWhile p).all p=true:=by
 induction t with
 |nil=>rfl
 |cons a t j=>
  by_cases h:p a=true
  .rw[yp h,yn,h,j];rfl
  .rw[y9 h];rfl
theorem G8(p:Nat->Bool)(t:Text):∀c z,t.drop (t.takeWhile p).length=c::z->p c=false:=by
 induction t with
 |nil=>intro c z h;simp at h
 |cons a t j=>
  intro c z h;by_cases q:p a=true
  .rw[yp q]at h;exact j c z (by simpa using h)
  .rw[y9 q]at h;simp at h;rw[<-h.1];simpa using q
theorem QZ{t n y:Text}(h:t=n++y):t.drop n.length=y:=by rw[h];simp
theorem kQ{t:Text}(j:clean (t.drop (t.takeWhile isDigit).length)=true):t.takeWhile BJ=t.takeWhile isDigit:=by have h1:=CJ isDigit t;have h2:=Ci (p:=BJ) (iP (takeWhile_all isDigit t) λx=>fL) (N8 j);rw[h1]at h2;exact h2
theorem iU{hi:Nat}{t:Text}{w:Nat}(j:number 0 hi (t.takeWhile BJ)=some w):t.takeWhile isDigit=t.takeWhile BJ:=by have h1:=CJ BJ t;have h2:=Ci (p:=isDigit) (fc j) (λc z e=>(Ym (G8 BJ t c z e)).1);rw[h1]at h2;exact h2
theorem dS(h:isCode t=true):t.all B1=true/\t≠[]:=by
 cases t with
 |nil=>cases h
 |cons c r=>unfold isCode at h;simp only[x4]at h;refine⟨?_,by simp⟩;simp only[yn,x4];refine⟨by unfold B1;simp[h.1],?_⟩;exact h.2.2
theorem Tx(ok:Cc e)(h:placeOf e t=some i):t.all B1=true/\t≠[]:=by obtain⟨c,j,rfl⟩:=placeOf_some h;exact dS (ok.cls i c j).2.2.1
theorem jI(h:B1 x=true):BJ x=true:=by unfold B1 at h;unfold BJ;rcases zN.mp h with h|h<;> simp[h]
theorem ig(h:BJ x=false):B1 x=false:=by obtain⟨h1,h2,_⟩:=Ym h;unfold B1;simp[h1,h2]
theorem oH(h:B1 x=true):x≠33:=λe=>by rw[e]at h;exact absurd h Dc
noncomputable def codeOf:Sg->Nat
 | .amp=>38
 | .opn=>40
 | .cls=>41
 | .not=>45
 | .bar=>124
 |_=>0
theorem Ii(h:Bg x=some s):x=codeOf s:=by
 by_cases h1:x=38
 .subst h1;cases h;rfl
 by_cases h2:x=40
 .subst h2;cases h;rfl
 by_cases j:x=41
 .subst j;cases h;rfl
 by_cases n:x=45
 .subst n;cases h;rfl
 by_cases q:x=124
 .subst q;cases h;rfl
 .exact nomatch ((xJ h1).trans ((xJ h2).trans ((xJ j).trans ((xJ n).trans (xJ q))))).symm.trans h
theorem Vh(h:B1 x=true):Bg x=none:=by
 cases q:Bg x with
 |none=>rfl
 |some s=>rw[Ii q]at h;cases s<;> cases h
theorem fW(h:t.all B1=true):alone t=false:=by unfold alone;apply xV;intro q;have:=ABH q;exact oH (xk.mp h _ this) rfl
theorem fH(t:Text):alone (t++[33])=true:=by unfold alone;simp
theorem iL(h:l.getLast?=some x):l=l.dropLast++[x]:=by obtain⟨ys,rfl⟩:=ABo.mp h;rw[yQ]
structure Maker where
 pieces:List Sg
 wait:List Sg
 ended:Bool
noncomputable def Ql:List Sg->List Sg->List Sg×List Sg
 |P,.not::W=>Ql (P++[.not]) W
 |P,W=>(P,W)
def Kk(P W:List Sg):Maker:=⟨(Ql P W).1,(Ql P W).2,true⟩
noncomputable def leaf:Sg->Bool
 | .topics _=>true
 | .word _=>true
 | .until _=>true
 | .since _=>true
 |_=>false
def behind(m:Maker)(s:Sg):Option Maker:=match m.wait with
 |[]=>none
 |a::w=>if a=.opn then(if s=.amp\/s=.bar then some ⟨m.pieces,s::w,false⟩else none)else(if s=.cls then some (Kk (m.pieces++[a]) w)else none)
def takes(m:Maker)(s:Sg):Option Maker:=
 if m.ended=true then behind m s
 else if s=.not\/s=.opn then some ⟨m.pieces,s::m.wait,false⟩
 else if leaf s=false\/10<=m.wait.length then none else some (Kk (m.pieces++[s]) m.wait)
noncomputable def runM:Maker->List Sg->Option Maker
 |m,[]=>some m
 |m,s::l=>match takes m s with
  |none=>none
  |some j=>runM j l
noncomputable def whole(m:Maker):Bool:=m.ended && decide (m.wait.length=0)
noncomputable def post:Query->List Sg
 | .topic m=>[.topics m]
 | .word w=>[.word w]
 | .until d=>[.until d]
 | .since d=>[.since d]
 | .not a=>post a++[.not]
 | .and a b=>post a++(post b++[.amp])
 | .or a b=>post a++(post b++[.bar])
theorem De:∀q,(post q).length=weight q
 | .topic _=>rfl
 | .word _=>rfl
 | .until _=>rfl
 | .since _=>rfl
 | .not a=>by show(post a++[Sg.not]).length=weight a+1;rw[xS,De a];rfl
 | .and a b=>by show(post a++(post b++[Sg.amp])).length=weight a+weight b+1;rw[xS,xS,De a,De b];rfl
 | .or a b=>by show(post a++(post b++[Sg.bar])).length=weight a+weight b+1;rw[xS,xS,De a,De b];rfl
theorem bt(P W:List Sg):Ql P (.not::W)=Ql (P++[.not]) W:=rfl
def Kl(e:Edition)(m:Maker)(t:Text):Option Maker:=(signs e t).bind (runM m)
theorem QH{e:Edition}{m:Maker}:Kl e m []=some m:=by unfold Kl;rw[Xi];rfl
theorem Gd{e:Edition}{m:Maker}{c:Nat}{t:Text}:Kl e m (c::t)=(C8 e c (Bk c t)).bind λs=>(takes m s).bind λj=>Kl e j (t.drop (Bk c t).length):=by
 unfold Kl;rw[VL];cases C8 e c (Bk c t)with
 |none=>rfl
 |some s=>
  show((signs e (t.drop (Bk c t).length)).map λl=>s::l).bind (runM m)=(takes m s).bind λj=>(signs e (t.drop (Bk c t).length)).bind (runM j);cases signs e (t.drop (Bk c t).length)with
  |none=>cases takes m s<;> rfl
  |some l=>
   show(match takes m s with
    |none=>none
    |some j=>runM j l)=(takes m s).bind λj=>runM j l
   cases takes m s<;> rfl
theorem Gg{e:Edition}{m:Maker}{c:Nat}{s:Sg}{t:Text}(h:Bg c=some s):Kl e m (c::t)=(takes m s).bind λj=>Kl e j t:=by rw[Gd,show Bk c t=[]from xQ (by rw[h];rfl),show C8 e c []=some s by unfold C8;rw[h]];rfl
theorem dv{e:Edition}{c:Nat}{r:Text}{s:Sg}(h:C8 e c r=some s):Bg c=some s\/(Bg c=none/\leaf s=true):=by
 unfold C8 at h;cases n:Bg c with
 |some s'=>rw[n]at h;exact .inl h
 |none=>
  rw[n]at h;refine .inr ⟨rfl,?_⟩;have h:(if c=35 then(number 0 5 r).map Sg.word else if c=60 then(number 0 999 r).map Sg.until else if c=62 then(number 0 999 r).map Sg.since else FK e (c::r))=some s:=h;have k:∀{j:Type}(f:j->Sg)(o:Option j),(∀w,leaf (f w)=true)->o.map f=some s->leaf s=true:=by intro j f o B q;obtain⟨w,_,rfl⟩:=xu.mp q;exact B w
  by_cases h1:c=35
  .rw[xQ h1]at h;exact k _ _ (λ_=>rfl) h
  rw[xJ h1]at h;by_cases h2:c=60
  .rw[xQ h2]at h;exact k _ _ (λ_=>rfl) h
  rw[xJ h2]at h;by_cases z:c=62
  .rw[xQ z]at h;exact k _ _ (λ_=>rfl) h
  rw[xJ z]at h;exact k _ _ (λ_=>rfl) h
theorem fD(t:Text):clean (t.drop (t.takeWhile BJ).length)=true:=by
 have h:=G8 BJ t;cases z:t.drop (t.takeWhile BJ).length with
 |nil=>rfl
 |cons c y=>show(!BJ c)=true;rw[h c y z];rfl
theorem rR{hi:Nat}{k:Nat->Query}{t r:Text}{q:Query}(h:(number 0 hi (t.takeWhile isDigit)).map (λw=>(k w,t.drop (t.takeWhile isDigit).length))=some (q,r))(j:clean r=true):
  ∃w,q=k w/\number 0 hi (t.takeWhile BJ)=some w/\t.drop (t.takeWhile BJ).length=r:=by
 obtain⟨w,n,e1⟩:=xu.mp h;cases e1;have z:=kQ j;rw[z];exact⟨w,rfl,n,rfl⟩
theorem sQ{hi:Nat}{k:Nat->Query}{t:Text}{w:Nat}(h:number 0 hi (t.takeWhile BJ)=some w):
  (number 0 hi (t.takeWhile isDigit)).map (λw=>(k w,t.drop (t.takeWhile isDigit).length))=some (k w,t.drop (t.takeWhile BJ).length):=by
 rw[iU h,h];rfl
theorem X4{c:Nat}(h:Bg c=none)(t:Text):Bk c t=t.takeWhile BJ:=xJ (by rw[h];exact nofun)
theorem uQ{e:Edition}(ok:Cc e){f c:Nat}{t r:Text}{q:Query}(n4:c≠45)(n5:c≠40)(h:Vbptal.read e (f+1) (c::t)=some (q,r))(B:clean r=true):
  ∃s,post q=[s]/\leaf s=true/\C8 e c (Bk c t)=some s/\t.drop (Bk c t).length=r:=by
 by_cases O:c=35
 .subst O;obtain⟨w,rfl,h1,h2⟩:=rR (k:=.word) (hi:=5) h B;exact⟨_,rfl,rfl,x3 (Option.map Sg.word) h1,h2⟩
 by_cases U:c=60
 .subst U;obtain⟨w,rfl,h1,h2⟩:=rR (k:=.until) (hi:=999) h B;exact⟨_,rfl,rfl,x3 (Option.map Sg.until) h1,h2⟩
 by_cases Y:c=62
 .subst Y;obtain⟨w,rfl,h1,h2⟩:=rR (k:=.since) (hi:=999) h B;exact⟨_,rfl,rfl,x3 (Option.map Sg.since) h1,h2⟩
 rw[QB O U Y n4 n5]at h;obtain⟨i,N,j⟩:=xu.mp h;obtain⟨ha,J⟩:=Tx ok N;have hw:B1 c=true:=by
  cases hb:B1 c with
  |true=>rfl
  |false=>rw[y9 (by rw[hb];exact nofun)]at J;exact absurd rfl J
 have g0:=Vh hw;rw[yp hw]at N ha j;have I:=CJ B1 t;have L:=iP (takeWhile_all B1 t) λx=>jI;rw[X4 g0];have rd:∀X,C8 e c X=FK e (c::X):=λX=>by unfold C8;rw[g0];exact(xJ O).trans ((xJ U).trans (xJ Y))
 have j:(if(t.drop (t.takeWhile B1).length).head?=some 33 then(Query.topic (own e i),(t.drop (t.takeWhile B1).length).tail)else(.topic (maskAt e i),t.drop (t.takeWhile B1).length))=(q,r):=j;generalize t.drop (t.takeWhile B1).length=z at I j;by_cases hz:z.head?=some 33
 .rw[xQ hz]at j;obtain⟨y,rfl⟩:=List.head?_eq_some_iff.mp hz;cases j;have B:clean y=true:=B;have I:(t.takeWhile B1++[33])++y=t:=by rw[yB];exact I
  have M:=Ci (p:=BJ) (n:=t.takeWhile B1++[33]) (by rw[AAJ,L];rfl) (N8 B);rw[I]at M;rw[M,rd,QZ I.symm];refine⟨_,rfl,rfl,?_,rfl⟩;unfold FK;rw[<-zT,fH,xQ rfl,yQ,N];rfl
 .rw[xJ hz]at j;cases j;have M:=Ci (p:=BJ) L (N8 B);rw[I]at M;rw[M,rd,QZ I.symm];refine⟨_,rfl,rfl,?_,rfl⟩;unfold FK;rw[fW ha,xJ nofun,N];rfl
theorem uF{e:Edition}(ok:Cc e){f c:Nat}{t:Text}{s:Sg}(L:Bg c=none)(h:C8 e c (Bk c t)=some s):
  ∃q,Vbptal.read e (f+1) (c::t)=some (q,t.drop (Bk c t).length):=by
 rw[X4 L]at h⊢;unfold C8 at h;rw[L]at h;by_cases M:c=35
 .subst M;obtain⟨w,I,_⟩:=xu.mp h;exact⟨.word w,sQ I⟩
 by_cases N:c=60
 .subst N;obtain⟨w,I,_⟩:=xu.mp h;exact⟨.until w,sQ I⟩
 by_cases O:c=62
 .subst O;obtain⟨w,I,_⟩:=xu.mp h;exact⟨.since w,sQ I⟩
 have h:FK e (c::t.takeWhile BJ)=some s:=((xJ M).trans ((xJ N).trans (xJ O))).symm.trans h;have Y:c≠45:=λe=>by subst e;cases L
 have n5:c≠40:=λe=>by subst e;cases L
 rw[QB M N O Y n5];obtain⟨i,hi,_⟩:=xu.mp h;have n:(c::t.takeWhile BJ)++t.drop (t.takeWhile BJ).length=c::t:=x3 (List.cons c) (CJ BJ t);have B:=G8 BJ t;obtain⟨j,_⟩:=Tx ok hi;unfold md;generalize t.drop (t.takeWhile BJ).length=z at n B;by_cases U:alone (c::t.takeWhile BJ)=true
 .rw[xQ U]at hi j;rw[iL (xI U),yB]at n;have n:(c::t.takeWhile BJ).dropLast++33::z=c::t:=n;have J:=Ci (p:=B1) (r:=33::z) j (λa z e=>by cases e;rfl);rw[n]at J;rw[J,hi,QZ n.symm];exact⟨_,rfl⟩
 .rw[xJ U]at hi j;have J:=Ci (p:=B1) j (λa y e=>ig (B a y e));rw[n]at J;rw[J,hi,QZ n.symm];exact⟨_,x3 some (xJ λq=>by obtain⟨y,rfl⟩:=List.head?_eq_some_iff.mp q;exact(Ym (B 33 y rfl)).2.2 rfl)⟩
noncomputable def QJ:Query->Bool
 | .not a=>QJ a
 | .and _ _=>false
 | .or _ _=>false
 |_=>true
theorem eV{P W:List Sg}{s:Sg}(j:leaf s=true)(n:¬10<=W.length):takes ⟨P,W,false⟩ s=some (Kk (P++[s]) W):=by unfold takes;rw[xJ nofun,xJ (by rintro(rfl|rfl)<;> cases j),xJ λh=>h.elim (λh=>nomatch h.symm.trans j) n]
theorem pk{f n:Nat}(h:f+1+n=10):f+(n+1)=10:=by lia
theorem Pp{e:Edition}(ok:Cc e):∀(f:Nat)(t:Text)(P W:List Sg)(q:Query)(r:Text),f+W.length=10->Vbptal.read e f t=some (q,r)->(QJ q=true->clean r=true)->
  Kl e ⟨P,W,false⟩ t=Kl e (Kk (P++post q) W) r:=by
 intro f
 induction f with
 |zero=>intro _ _ _ _ _ _ h;cases h
 |succ f z=>
  intro t P W q r B h U;cases t with
  |nil=>cases h
  |cons c t=>
   by_cases I:c=45
   .subst I;obtain⟨x,hx,e1⟩:=xu.mp h;cases e1;rw[Gg (s:=.not) rfl];refine(z t P (.not::W) x.1 x.2 (pk B) hx U).trans ?_;rw[show P++post (.not x.1)=P++post x.1++[.not]from(yB ..).symm];rfl
   by_cases J:c=40
   .subst J;obtain⟨a,s,L,b,h1,h2,M⟩:=gD (g:=Vbptal.read e f) (x:=Vbptal.read e f t) h;have fin:∀j:Sg,Bg s=some j->clean (s::L)=true->(∀n,(takes ⟨n,.opn::W,true⟩ j=some ⟨n,j::W,false⟩)/\Ql n (j::W)=(n,j::W)/\takes ⟨n,j::W,true⟩ .cls=some (Kk (n++[j]) W))->
      Kl e ⟨P,W,false⟩ (40::t)=Kl e (Kk (P++(post a++(post b++[j]))) W) r:=by
     intro j hs N O;rw[Gg (s:=.opn) rfl];refine(z t P (.opn::W) a _ (pk B) h1 (λ_=>N)).trans ?_;show Kl e ⟨P++post a,.opn::W,true⟩ (s::L)=_;rw[Gg hs,(O _).1];refine(z L (P++post a) (j::W) b _ (pk B) h2 (λ_=>rfl)).trans ?_;unfold Kk;rw[(O _).2.1,Gg (s:=.cls) rfl];show(takes ⟨P++post a++post b,j::W,true⟩ .cls).bind _=_;rw[(O _).2.2,yB,yB];rfl
    rcases M with⟨rfl,rfl⟩|⟨rfl,rfl⟩
    .exact fin .amp rfl rfl λ_=>⟨rfl,rfl,rfl⟩
    .exact fin .bar rfl rfl λ_=>⟨rfl,rfl,rfl⟩
   have hl:QJ q=true:=by
    by_cases Y:c=35
    .subst Y;obtain⟨w,_,e1⟩:=xu.mp h;cases e1;rfl
    by_cases n2:c=60
    .subst n2;obtain⟨w,_,e1⟩:=xu.mp h;cases e1;rfl
    by_cases n3:c=62
    .subst n3;obtain⟨w,_,e1⟩:=xu.mp h;cases e1;rfl
    rw[QB Y n2 n3 I J]at h;obtain⟨w,_,e1⟩:=xu.mp h;rw[show q=(q,r).1 from rfl,<-e1];split<;> rfl
   obtain⟨s,h1,h2,M,h4⟩:=uQ ok I J h (U hl);rw[Gd,M,h1,h4];show(takes ⟨P,W,false⟩ s).bind _=_;rw[eV h2 λh=>by lia];rfl
theorem lJ:∀(l P W:List Sg)(m:Maker),10<=W.length->runM ⟨P,W,false⟩ l=some m->m.ended=false:=by
 intro l
 induction l with
 |nil=>intro P W m _ h;cases h;rfl
 |cons s t q=>
  intro P W m j h;have h:(match takes ⟨P,W,false⟩ s with
   |none=>none
   |some z=>runM z t)=some m:=h
  by_cases n:s=.not\/s=.opn
  .rw[show takes ⟨P,W,false⟩ s=some ⟨P,s::W,false⟩from xQ n]at h;exact q P (s::W) m (AAt j) h
  .rw[show takes ⟨P,W,false⟩ s=none from(xJ n).trans (xQ (.inr j))]at h;cases h
theorem run_read{e:Edition}(ok:Cc e):∀(f:Nat)(t:Text)(P W:List Sg)(m:Maker),f+W.length=10->Kl e ⟨P,W,false⟩ t=some m->whole m=true->
  ∃q r,Vbptal.read e f t=some (q,r)/\(QJ q=true->clean r=true):=by
 intro f
 induction f with
 |zero=>intro t P W m N h B;obtain⟨l,_,h⟩:=y2.mp h;have:=lJ l P W m Om h;unfold whole at B;rw[this]at B;cases B
 |succ f Y=>
  intro t P W m N h B;cases t with
  |nil=>rw[QH]at h;cases h;cases B
  |cons c t=>
   have L:∃s,C8 e c (Bk c t)=some s:=by rw[Gd]at h;obtain⟨s,L,h⟩:=y2.mp h;exact⟨s,L⟩
   obtain⟨s,L⟩:=L;rcases dv L with I|⟨I,_⟩
   .clear L;rw[Gg I]at h;have:=Ii I;subst this;cases s with
    |opn=>
     obtain⟨a,r1,M,c1⟩:=Y t P (.opn::W) m (pk N) h B;have h:Kl e ⟨P++post a,.opn::W,true⟩ r1=some m:=(Pp ok f t P (.opn::W) a r1 (pk N) M c1).symm.trans h;cases r1 with
     |nil=>rw[QH]at h;cases h;cases B
     |cons x r2=>
      have fin:∀n,n≠ .opn->(∀O,(takes ⟨O,.opn::W,true⟩ n=some ⟨O,n::W,false⟩)/\Ql O (n::W)=(O,n::W))->Bg x=some n->∃b z,Vbptal.read e f r2=some (b,41::z):=by
       intro n q1 hk j;rw[Gg j,(hk _).1]at h;obtain⟨b,r3,J,c2⟩:=Y r2 (P++post a) (n::W) m (pk N) h B;have h:Kl e (Kk (P++post a++post b) (n::W)) r3=some m:=(Pp ok f r2 _ (n::W) b r3 (pk N) J c2).symm.trans h;unfold Kk at h;rw[(hk _).2]at h;cases r3 with
       |nil=>rw[QH]at h;cases h;cases B
       |cons y r4=>
        rw[Gd]at h;obtain⟨sy,U,h⟩:=y2.mp h;obtain⟨m',h,_⟩:=y2.mp h;have:sy=.cls:=yL λq2=>nomatch ((xJ q1).trans (xJ q2)).symm.trans h;subst this;rcases dv U with U|⟨_,U⟩
        .rw[Ii U]at J;exact⟨b,r4,J⟩
        .cases U
      have j:Bg x=some .amp\/Bg x=some .bar:=by
       rw[Gd]at h;obtain⟨n,j,h⟩:=y2.mp h;obtain⟨m',h,_⟩:=y2.mp h;have:n=.amp\/n=.bar:=yL λq=>nomatch (xJ q).symm.trans h;rcases dv j with j|⟨_,j⟩
       .rcases this with rfl|rfl
        .exact .inl j
        .exact .inr j
       .rcases this with rfl|rfl<;> cases j
      rcases j with j|j
      .obtain⟨b,z,J⟩:=fin .amp nofun (λO=>⟨rfl,rfl⟩) j;rw[Ii j]at M;exact⟨.and a b,z,(x3 (nv (Vbptal.read e f)) M).trans (kq J rfl),nofun⟩
      .obtain⟨b,z,J⟩:=fin .bar nofun (λO=>⟨rfl,rfl⟩) j;rw[Ii j]at M;exact⟨.or a b,z,(x3 (nv (Vbptal.read e f)) M).trans (kq J rfl),nofun⟩
    |not=>obtain⟨q,r,M,J⟩:=Y t P (.not::W) m (pk N) h B;exact⟨.not q,r,x3 (Option.map λx:Query×Text=>(Query.not x.1,x.2)) M,J⟩
    |amp=>cases h
    |bar=>cases h
    |cls=>cases h
    |topics m=>cases I
    |word m=>cases I
    | «until» m=>cases I
    |since m=>cases I
   .obtain⟨q,hq⟩:=uF ok (f:=f) I L;exact⟨q,_,hq,λ_=>by rw[X4 I];exact fD t⟩
def made(l:List Sg):Option (List Sg):=(runM ⟨[],[],false⟩ l).bind λm=>if whole m=true then some m.pieces else none
theorem Yt(ok:Cc e)(t:Text):(queryOf e t).map post=(signs e t).bind made:=by
 have n:(signs e t).bind made=(Kl e ⟨[],[],false⟩ t).bind λm=>if whole m=true then some m.pieces else none:=(Option.bind_assoc ..).symm
 rw[n];cases j:queryOf e t with
 |some q=>rw[Pp ok 10 t [] [] q [] rfl (La j) (λ_=>rfl),QH];rfl
 |none=>
  cases h:Kl e ⟨[],[],false⟩ t with
  |none=>rfl
  |some m=>
   refine(xJ λz=>?_).symm;obtain⟨q,r,h1,h2⟩:=run_read ok 10 t [] [] m rfl h z;have h:Kl e ⟨post q,[],true⟩ r=some m:=(Pp ok 10 t [] [] q r rfl h1 h2).symm.trans h;cases r with
   |nil=>
    have:queryOf e t=some q:=by unfold queryOf;rw[show Vbptal.read e DEPTH t=some (q,[])from h1]
    cases j.symm.trans this
   |cons x r=>rw[Gd]at h;obtain⟨s,_,h⟩:=y2.mp h;cases h
noncomputable def bitsOf(p:Nat->Bool):List Nat->Nat
 |[]=>0
 |x::L=>(if p x=true then 1 else 0)+2*bitsOf p L
theorem BA(p:Nat->Bool):∀(L:List Nat)(j:Nat),(bitsOf p L).testBit j=(L[j]?).any p
 |[],j=>by simp[bitsOf]
 |x::L,0=>by rw[bitsOf,zS];cases h:p x<;> simp[h]<;> lia
 |x::L,j+1=>by
  rw[bitsOf,z9];have:((if p x=true then 1 else 0)+2*bitsOf p L) / 2=bitsOf p L:=by split<;> lia
  rw[this,BA p L j];simp
theorem N9:∀{L:List Nat},(∀x∈L,p x=q x)->bitsOf p L=bitsOf q L
 |[],_=>rfl
 |x::L,h=>by rw[bitsOf,bitsOf,h x (by simp),N9 λy j=>h y (by simp[j])]
theorem dw(p q:Nat->Bool)(L:List Nat):bitsOf p L &&& bitsOf q L=bitsOf (λx=>p x && q x) L:=by apply yO;intro j;rw[yf,BA,BA,BA];cases L[j]?<;> rfl
theorem jJ(p q:Nat->Bool)(L:List Nat):bitsOf p L||| bitsOf q L=bitsOf (λx=>p x|| q x) L:=by apply yO;intro j;rw[AAQ,BA,BA,BA];cases L[j]?<;> rfl
theorem dY(p q:Nat->Bool)(L:List Nat):bitsOf p L ^^^ bitsOf q L=bitsOf (λx=>p x !=q x) L:=by
 apply yO;intro j;rw[AB9,BA,BA,BA];cases L[j]? with
 |none=>rfl
 |some x=>show(p x ^^ q x)=(p x !=q x);cases p x<;> cases q x<;> rfl
noncomputable def A2(L:List Nat):Nat:=2 ^ L.length - 1
theorem Jg:∀L:List Nat,bitsOf (λ_=>true) L=A2 L
 |[]=>rfl
 |x::L=>by rw[bitsOf,Jg L];unfold A2;rw[xg,za];have:0<2 ^ L.length:=AAd _;rw[xQ rfl];lia
theorem LJ:∀L:List Nat,bitsOf (λ_=>false) L=0
 |[]=>rfl
 |x::L=>by rw[bitsOf,LJ L];rfl
theorem OR:∀(p:Nat->Bool)(L:List Nat),bitsOf p L+bitsOf (λx=> !p x) L=A2 L
 |p,[]=>rfl
 |p,x::L=>by
  have j:=OR p L;rw[bitsOf,bitsOf];have e:A2 (x::L)=1+2*A2 L:=by rw[<-Jg,<-Jg,bitsOf,xQ rfl]
  rw[e,<-j];cases p x<;> simp<;> lia
theorem jA(p:Nat->Bool)(L:List Nat):bitsOf p L<2 ^ L.length:=by have h1:=OR p L;have:0<2 ^ L.length:=AAd _;unfold A2 at h1;lia
theorem Ru:bitsOf p L=0↔∀x∈L,p x=false:=by
 constructor
 .intro h x n;obtain⟨j,z,rfl⟩:=AAZ n;have:=BA p L j;rw[h,Nat.zero_testBit,xW z]at this;exact this.symm
 .intro h;rw[N9 (q:=λ_=>false) h,LJ]
theorem NZ(p:Nat->Bool):∀(L M:List Nat),bitsOf p (L++M)=bitsOf p L+2 ^ L.length*bitsOf p M
 |[],M=>by simp[bitsOf]
 |x::L,M=>by rw[zT,bitsOf,NZ p L M,bitsOf,xg,za];rw[Nat.mul_add,AAk (2 ^ L.length) 2,ABd];lia
theorem Mi(n i:Nat):(n &&& 2 ^ i=0)↔n.testBit i=false:=gh n i
@[irreducible]noncomputable def MS:List Nat:=topicSets.map maskOf
noncomputable def vh:List Nat->Nat->Bool
 |[],_=>true
 |x::l,acc=> !acc.testBit x && vh l (acc||| 2 ^ x)
theorem W5:∀(l:List Nat)(acc:Nat),vh l acc=true->l.Nodup/\∀x∈l,acc.testBit x=false
 |[],_,_=>⟨ACF,λ_ h=>by simp at h⟩
 |x::l,acc,h=>by
  unfold vh at h;rw[x4]at h;obtain⟨h1,h2⟩:=W5 l _ h.2;have n:acc.testBit x=false:=by simpa using h.1
  refine⟨yA.mpr ⟨λq=>?_,h1⟩,λy j=>?_⟩
  .have:=h2 x q;rw[AAQ,ABw]at this;simp at this
  .rcases xb.mp j with rfl|j
   .exact n
   .have:=h2 y j;rw[AAQ,yU]at this;exact this.1
theorem Zq:MS.Nodup:=(W5 MS 0 Dk).1
theorem WV:topicSets.length=299:=by decide+kernel
theorem fO:MS.length=299:=by unfold MS;rw[xH,WV]
theorem oY:(topicSets.all λt=>rising t && t.all λx=>decide (x<12))=true:=by decide+kernel
theorem ZH(h:t∈topicSets):rising t=true/\∀x∈t,x<12:=by have:=xk.mp oY t h;rw[x4]at this;exact⟨this.1,λx j=>xI (xk.mp this.2 x j)⟩
theorem Q5:∀t∈topicSets,topics (maskOf t)=t:=λt j=>NQ (ZH j).1 (ZH j).2
theorem uS:∀m∈MS,m<4096:=by intro m j;unfold MS at j;obtain⟨t,n,rfl⟩:=x5.mp j;exact MY (ZH n).2
theorem YT{a:Nat}(h:a<12):a∈List.range TOPICS:=yZ.mpr h
theorem lS{a b:Nat}(h:b<12)(g:a<b):b∈(List.range TOPICS).filter λb=>decide (a<b):=yH.mpr ⟨YT h,xR g⟩
theorem mL{t:List Nat}(j:t.Pairwise (· < ·))(h:∀x∈t,x<12)(z:t.length<=3):t∈topicSets:=by
 cases t with
 |nil=>exact xl ..
 |cons a t=>
  refine xY _ ?_;obtain⟨n,h⟩:=ABI.mp h;obtain⟨B,j⟩:=yS.mp j;cases t with
  |nil=>exact y3 _ (x5.mpr ⟨a,YT n,rfl⟩)
  |cons b t=>
   refine yb _ ?_;obtain⟨I,h⟩:=ABI.mp h;have q:=lS I (B b (xl ..));obtain⟨pc,_⟩:=yS.mp j;cases t with
   |nil=>exact y3 _ (AAA.mpr ⟨a,YT n,x5.mpr ⟨b,q,rfl⟩⟩)
   |cons c t=>
    obtain⟨J,_⟩:=ABI.mp h;cases t with
    |nil=>exact yb _ (AAA.mpr ⟨a,YT n,AAA.mpr ⟨b,q,x5.mpr ⟨c,lS J (pc c (xl ..)),rfl⟩⟩⟩)
    |cons d t=>exact absurd z (Nat.not_le_of_lt (AAH 4 _))
theorem sub_len:∀{t:List Nat}(l:List Nat),t.Pairwise (· < ·)->(∀x∈t,x∈l)->t.length<=l.length:=by
 intro t
 induction t with
 |nil=>intro l _ _;exact xi _
 |cons x t q=>intro l z h;have j:=h x (xl ..);obtain⟨h1,h2⟩:=yS.mp z;have:=q (l.erase x) h2 λy n=>(List.mem_erase_of_ne (yY (h1 y n))).mpr (h y (xY _ n));rw[ABz j]at this;exact Nat.add_le_of_le_sub (AAy j) this
theorem da(h:l.length<=3)(q:∀t∈l,t<12):maskOf l∈MS:=by
 have n:=Ke (maskOf l);have j:∀t,t∈topics (maskOf l)->t∈l:=λt z=>by have:=(BI.mp z).2;rw[Au]at this;exact xI this
 unfold MS;exact x5.mpr ⟨topics (maskOf l),mL n (λx B=>(BI.mp B).1) (xr (sub_len l n j) h),Nt (MY q)⟩
noncomputable def Ed(m s:Nat):Bool:=decide (s &&& m≠0)
noncomputable def Vc(words:List Nat)(day:Nat)(q:Query)(s:Nat):Bool:=holds ⟨topics s,words,day⟩ q
theorem jr(n:s<4096):(topics s).any (λt=>m.testBit t)=Ed m s:=by
 unfold Ed;rw[zY,AAW,yN];constructor
 .rintro⟨t,j,q⟩ z;have:(s &&& m).testBit t=true:=by rw[yf,(BI.mp j).2,q];rfl
  rw[z,Nat.zero_testBit]at this;cases this
 .intro h;obtain⟨t,j⟩:=AAN h;rw[yf,x4]at j;exact⟨t,BI.mpr ⟨Q9 n j.1,j.1⟩,j.2⟩
def Fu(words:List Nat)(day:Nat)(q:Query):Nat:=bitsOf (Vc words day q) MS
def Fc:Sg->Sg
 | .topics m=>.topics (bitsOf (Ed m) MS)
 |s=>s
noncomputable def need:Sg->Nat
 | .not=>1
 | .amp=>2
 | .bar=>2
 |_=>0
def se(words:List Nat)(day:Nat)(s:Sg)(st:List Nat):List Nat:=match s with
 | .not=>(A2 MS - st.headD 0)::st.tail
 | .amp=>(st.tail.headD 0 &&& st.headD 0)::st.tail.tail
 | .bar=>(st.tail.headD 0||| st.headD 0)::st.tail.tail
 | .topics v=>v::st
 | .word w=>(if words.contains w=true then A2 MS else 0)::st
 | .until d=>(if day<=d then A2 MS else 0)::st
 | .since d=>(if d<=day then A2 MS else 0)::st
 | .opn=>st
 | .cls=>st
def gP(words:List Nat)(day:Nat)(l:List Sg)(st:List Nat):List Nat:=l.foldl (λst s=>se words day s st) st
def wf:List Sg->Nat->Prop
 |[],_=>True
 |s::l,n=>(s≠ .opn/\s≠ .cls/\need s<=n)/\wf l (n+1 - need s)
theorem Mg:∀(q:Query)(rest:List Sg)(n:Nat),wf rest (n+1)->wf ((post q).map Fc++rest) n
 | .topic m,rest,n,h=>⟨⟨nofun,nofun,xi _⟩,h⟩
 | .word m,rest,n,h=>⟨⟨nofun,nofun,xi _⟩,h⟩
 | .until m,rest,n,h=>⟨⟨nofun,nofun,xi _⟩,h⟩
 | .since m,rest,n,h=>⟨⟨nofun,nofun,xi _⟩,h⟩
 | .not a,rest,n,h=>by rw[show post (.not a)=post a++[Sg.not]from rfl,xX,yB];exact Mg a _ n ⟨⟨nofun,nofun,AAH 1 n⟩,h⟩
 | .and a b,rest,n,h=>by rw[show post (.and a b)=post a++(post b++[Sg.amp])from rfl];rw[xX,xX,yB,yB];exact Mg a _ n (Mg b _ (n+1) ⟨⟨nofun,nofun,AAH 2 n⟩,h⟩)
 | .or a b,rest,n,h=>by rw[show post (.or a b)=post a++(post b++[Sg.bar])from rfl];rw[xX,xX,yB,yB];exact Mg a _ n (Mg b _ (n+1) ⟨⟨nofun,nofun,AAH 2 n⟩,h⟩)
theorem E9(w:List Nat)(d:Nat)(l m:List Sg)(st:List Nat):gP w d (l++m) st=gP w d m (gP w d l st):=by unfold gP;rw[AAO]
theorem fP(b:Bool):bitsOf (λ_=>b) MS=if b=true then A2 MS else 0:=by
 cases b
 .rw[LJ];rfl
 .rw[Jg];rfl
theorem JA(w:List Nat)(d:Nat):∀(q:Query)(st:List Nat),gP w d ((post q).map Fc) st=Fu w d q::st
 | .topic m,st=>by show bitsOf (Ed m) MS::st=_;unfold Fu;rw[N9 (q:=Vc w d (.topic m))];intro s j;exact(jr (uS s j)).symm
 | .word v,st=>by show(if w.contains v=true then A2 MS else 0)::st=_;rw[<-fP];rfl
 | .until v,st=>by show(if d<=v then A2 MS else 0)::st=_;unfold Fu;show _=bitsOf (λ_=>decide (d<=v)) MS::st;rw[fP];simp only[yN]
 | .since v,st=>by show(if v<=d then A2 MS else 0)::st=_;unfold Fu;show _=bitsOf (λ_=>decide (v<=d)) MS::st;rw[fP];simp only[yN]
 | .not a,st=>by rw[show post (.not a)=post a++[Sg.not]from rfl];rw[xX,E9,JA w d a];show(A2 MS - Fu w d a)::st=_;have:=OR (Vc w d a) MS;have e:Fu w d (.not a)=bitsOf (λx=> !Vc w d a x) MS:=rfl;rw[e,<-this];exact x3 (· ::st) (Nat.add_sub_cancel_left ..)
 | .and a b,st=>by rw[show post (.and a b)=post a++(post b++[Sg.amp])from rfl];rw[xX,xX,E9,E9,JA w d a,JA w d b];show(Fu w d a &&& Fu w d b)::st=_;unfold Fu;rw[dw];rfl
 | .or a b,st=>by rw[show post (.or a b)=post a++(post b++[Sg.bar])from rfl];rw[xX,xX,E9,E9,JA w d a,JA w d b];show(Fu w d a||| Fu w d b)::st=_;unfold Fu;rw[jJ];rfl
theorem mm:A2 MS<2 ^ MS.length:=by have:0<2 ^ MS.length:=AAd _;unfold A2;lia
theorem cT{st:List Nat}(h:1<=st.length):st.tail.length+1=st.length:=by rw[AA6];exact Nat.sub_add_cancel h
theorem oM{w:List Nat}{d:Nat}{s:Sg}{st:List Nat}(h1:s≠ .opn)(h2:s≠ .cls)(n:need s<=st.length):(se w d s st).length=st.length+1 - need s:=by
 have j:2<=st.length->st.tail.tail.length+1=st.length - 1:=λh=>by rw[cT (by rw[AA6];exact Nat.le_sub_of_add_le h),AA6]
 cases s with
 |not=>exact cT n
 |amp=>exact j n
 |bar=>exact j n
 |opn=>exact absurd rfl h1
 |cls=>exact absurd rfl h2
 |_=>rfl
def vN:Sg->Prop
 | .topics v=>v<2 ^ MS.length
 |_=>True
theorem sO{w:List Nat}{d:Nat}{s:Sg}{st:List Nat}(q:vN s)(h:∀a∈st,a<2 ^ MS.length):∀a∈se w d s st,a<2 ^ MS.length:=by
 have z:=mm;have B:(0:Nat)<2 ^ MS.length:=AAd _;have c:∀{x:Nat}{l:List Nat},x<2 ^ MS.length->(∀a∈l,a<2 ^ MS.length)->∀a∈x::l,a<2 ^ MS.length:=λI j a n=>(xb.mp n).elim (λe=>e▸I) (j a);have t:∀{l:List Nat},(∀a∈l,a<2 ^ MS.length)->l.headD 0<2 ^ MS.length/\∀a∈l.tail,a<2 ^ MS.length:=λ{l}j=>by
  cases l with
  |nil=>exact⟨B,j⟩
  |cons x l=>exact⟨j x (xl ..),λa n=>j a (xY _ n)⟩
 have i:∀(p:Prop) [Decidable p],(if p then A2 MS else 0)<2 ^ MS.length:=λp _=>by split<;> assumption
 cases s with
 |not=>exact c (AAj (Nat.sub_le ..) z) (t h).2
 |amp=>exact c (AAj Nat.and_le_right (t h).1) (t (t h).2).2
 |bar=>exact c (Nat.or_lt_two_pow (t (t h).2).1 (t h).1) (t (t h).2).2
 |opn=>exact h
 |cls=>exact h
 |topics v=>exact c q h
 |word v=>exact c (i _) h
 | «until» v=>exact c (i _) h
 |since v=>exact c (i _) h
theorem pF(s:Sg):vN (Fc s):=by
 cases s with
 |topics m=>show bitsOf _ MS<2 ^ MS.length;exact jA (Ed m) MS
 |_=>trivial
noncomputable def putN(l:List (Nat×Nat))(k v:Nat):List (Nat×Nat):=
 if(l.any λj=>decide (j.1=k))=true then l.map (λj=>if j.1=k then(j.1,v)else j)else l++[(k,v)]
noncomputable def QA(l:List (Nat×Nat))(k:Nat):Nat:=((l.find? λj=>decide (j.1=k)).map (·.2)).getD 0
noncomputable def CK(l:List (Nat×Nat)):List Nat:=l.map (·.1)
noncomputable def V1(p:Nat->Bool)(l:List (Nat×Nat)):Nat:=(l.map λj=>if p j.1=true then j.2 else 0).sum
theorem KG(p:Nat->Bool):V1 p []=0:=rfl
theorem DK(p:Nat->Bool)(x:Nat×Nat)(l:List (Nat×Nat)):V1 p (x::l)=(if p x.1=true then x.2 else 0)+V1 p l:=by simp[V1]
theorem fX(p:Nat->Bool)(l m:List (Nat×Nat)):V1 p (l++m)=V1 p l+V1 p m:=by simp[V1]
theorem cI:∀{l:List (Nat×Nat)},k∉CK l->V1 p (l.map (λj=>if j.1=k then(j.1,v)else j))=V1 p l
 |[],_=>rfl
 |x::l,h=>by have h1:¬x.1=k:=λe=>h (by simp[CK,e]);rw[yE,xJ h1,DK,DK,cI λq=>h (by unfold CK at q⊢;simp at q⊢;exact .inr q)]
theorem gW:∀{l:List (Nat×Nat)},(CK l).Nodup->V1 p (putN l k (QA l k+c))=V1 p l+if p k=true then c else 0
 |[],_=>by show V1 p [(k,0+c)]=0+_;rw[DK,KG];simp
 |x::l,h=>by
  have j:x.1∉CK l/\(CK l).Nodup:=yA.mp h;by_cases e:x.1=k
  .have g:QA (x::l) k=x.2:=by unfold QA;simp[zB,e]
   unfold putN;rw[xQ (by simp[e]),yE,xQ e,DK,DK,cI (by rw[<-e];exact j.1),g,<-e];by_cases B:p x.1=true<;> simp[B]<;> lia
  .have g:QA (x::l) k=QA l k:=by unfold QA;simp[zB,e]
   have n:=gW (p:=p) (k:=k) (c:=c) j.2;unfold putN at n⊢;rw[g];have I:((x::l).any λq=>decide (q.1=k))=(l.any λq=>decide (q.1=k)):=by simp[e]
   rw[I];by_cases z:(l.any λq=>decide (q.1=k))=true
   .rw[xQ z]at n⊢;rw[yE,xJ e,DK,DK,n];lia
   .rw[xJ z]at n⊢;rw[zT,DK,DK,n];lia
theorem Pl(h:(l.any λj=>decide (j.1=k))=true):CK (putN l k v)=CK l:=by unfold putN CK;rw[xQ h,yg];apply yu;intro x _;simp only[Function.comp];split<;> rfl
theorem Sb(h:¬(l.any λj=>decide (j.1=k))=true):CK (putN l k v)=CK l++[k]:=by unfold putN CK;rw[xJ h,xX];rfl
theorem jq(h:(CK l).Nodup):(CK (putN l k v)).Nodup:=by
 by_cases e:(l.any λj=>decide (j.1=k))=true
 .rw[Pl e];exact h
 .rw[Sb e];rw[yX];refine⟨h,by simp,λa n b z q=>?_⟩;have:b=k:=by simpa using z
  subst this;subst q;apply e;obtain⟨x,B,I⟩:=x5.mp n;exact AAW.mpr ⟨x,B,by simp[I]⟩
theorem nz(h:y∈CK (putN l k v)):y∈CK l\/y=k:=by
 by_cases e:(l.any λj=>decide (j.1=k))=true
 .rw[Pl e]at h;exact .inl h
 .rw[Sb e]at h;rcases xq.mp h with h|h
  .exact .inl h
  .exact .inr (by simpa using h)
theorem oW(l:List (Nat×Nat))(k v:Nat):(putN l k v).length<=l.length+1:=by
 unfold putN;split
 .simp
 .simp
theorem R8:∀{l:List Nat}{r:List Nat},r∈choices l->r.length=l.length/\∀t∈r,t<12
 |[],r,h=>by
  have:r=[]:=by simpa[choices]using h
  subst this;exact⟨rfl,λt h=>by simp at h⟩
 |m::l,r,h=>by
  unfold choices at h;obtain⟨t,n,h⟩:=AAA.mp h;obtain⟨z,q,rfl⟩:=x5.mp h;obtain⟨h1,h2⟩:=R8 q;refine⟨by simp[h1],λx j=>?_⟩;rcases xb.mp j with rfl|j
  .exact(BI.mp n).1
  .exact h2 x j
noncomputable def Fp(f:Nat->Nat)(l:List Nat):Nat:=(l.map f).sum
theorem cb(f:Nat->Nat):Fp f []=0:=rfl
theorem E7(f:Nat->Nat)(a:Nat)(l:List Nat):Fp f (a::l)=f a+Fp f l:=by simp[Fp]
theorem cf(f:Nat->Nat)(l m:List Nat):Fp f (l++m)=Fp f l+Fp f m:=by simp[Fp]
theorem cC(f g:Nat->Nat):∀l:List Nat,Fp (λx=>f x+g x) l=Fp f l+Fp g l
 |[]=>rfl
 |a::l=>by rw[E7,E7,E7,cC f g l];lia
theorem Xp:∀l:List Nat,Fp (λ_=>0) l=0
 |[]=>rfl
 |a::l=>by rw[E7,Xp l]
theorem XE(f:Nat->Nat->Nat)(m:List Nat):∀l:List Nat,Fp (λx=>Fp (f x) m) l=Fp (λy=>Fp (λx=>f x y) l) m
 |[]=>by rw[cb];exact(Xp m).symm
 |a::l=>by rw[E7,XE f m l,<-cC];rfl
theorem Jp(h:∀x∈l,f x=g x):Fp f l=Fp g l:=by unfold Fp;rw[yu h]
theorem countP_flatMap(P:List Nat->Bool)(g:Nat->List (List Nat)):∀l:List Nat,(l.flatMap g).countP P=Fp (λt=>(g t).countP P) l
 |[]=>rfl
 |a::l=>by rw[zJ,List.countP_append,countP_flatMap P g l,E7]
theorem Jt(P:List Nat->Bool)(m:Nat)(l:List Nat):(choices (m::l)).countP P=Fp (λt=>(choices l).countP λr=>P (t::r)) (topics m):=by rw[choices,countP_flatMap];apply Jp;intro t _;rw[List.countP_map];rfl
theorem P7(m:Nat):∀(l:List Nat)(P:List Nat->Bool),(choices (l++[m])).countP P=Fp (λt=>(choices l).countP λr=>P (r++[t])) (topics m)
 |[],P=>by show(choices [m]).countP P=_;rw[Jt];rfl
 |a::l,P=>by rw[zT,Jt];have:∀t,(choices (l++[m])).countP (λr=>P (t::r))=Fp (λu=>(choices l).countP λr=>P (t::(r++[u]))) (topics m):=λt=>P7 m l _;rw[Jp λt _=>this t,XE];apply Jp;intro u _;rw[Jt];rfl
structure dI(L:List Nat)(kvs:List (Nat×Nat)):Prop where
 nd:(CK kvs).Nodup
 tt:∀p:Nat->Bool,V1 p kvs=(choices L).countP λr=>p (maskOf r)
 key:∀k∈CK kvs,∃r:List Nat,r.length=L.length/\(∀t∈r,t<12)/\k=maskOf r
 len:kvs.length<=12 ^ L.length
theorem dI.start:dI [] [(0,1)]:=by
 refine⟨by simp[CK],λp=>?_,λk j=>⟨[],rfl,λt h=>by simp at h,?_⟩,by simp⟩
 .rw[DK,KG];show _=[[]].countP _;have n:maskOf []=0:=rfl;by_cases h:p 0=true<;> simp[h,n]
 .have:k=0:=by simpa[CK]using j
  rw[this];rfl
structure GF(counts:List (Nat×Nat))(mark i j:Nat)(more:List (Nat×Nat)):Prop where
 nd:(CK more).Nodup
 tt:∀p:Nat->Bool,V1 p more=Fp (λt=>V1 (λk=>p (k||| 2 ^ t)) counts) ((List.range i).filter λt=>mark.testBit t)+V1 (λk=>p (k||| 2 ^ i)) (counts.take j)
 key:∀k∈CK more,∃m t,m∈CK counts/\t<12/\k=m||| 2 ^ t
 len:more.length<=counts.length*i+j
theorem GF.start(counts:List (Nat×Nat))(mark:Nat):GF counts mark 0 0 []:=
 ⟨by simp[CK],λp=>rfl,λk h=>by simp[CK]at h,by simp⟩
theorem GF.put(h:GF counts mark i j more)(n:counts[j]?=some x)(hi:i<12):GF counts mark i (j+1) (putN more (x.1||| 2 ^ i) (QA more (x.1||| 2 ^ i)+x.2)):=by
 refine⟨jq h.nd,λp=>?_,λk z=>?_,?_⟩
 .rw[gW h.nd,h.tt p,take_succ n,fX,DK,KG];lia
 .rcases nz z with q|q
  .exact h.key k q
  .exact⟨x.1,i,x5.mpr ⟨x,xO n,rfl⟩,hi,q⟩
 .have:=oW more (x.1||| 2 ^ i) (QA more (x.1||| 2 ^ i)+x.2);have:=h.len;lia
theorem GF.next(h:GF counts mark i counts.length more)(j:mark.testBit i=true):GF counts mark (i+1) 0 more:=by
 refine⟨h.nd,λp=>?_,h.key,?_⟩
 .rw[h.tt p,xm,zr,yV,zH j,ABJ,cf,E7,cb,ABT,KG];lia
 .have:=h.len;rw[Nat.mul_succ];lia
theorem GF.skip(h:GF counts mark i 0 more)(j:mark.testBit i=false):GF counts mark (i+1) 0 more:=by
 refine⟨h.nd,λp=>?_,h.key,?_⟩
 .rw[h.tt p,zr,yV,zI (by simp[j]),ABJ,yJ,ABT,KG,KG]
 .have:=h.len;rw[Nat.mul_succ];lia
theorem dI.more{L:List Nat}{counts more:List (Nat×Nat)}{mark:Nat}(j:dI L counts)(h:GF counts mark 12 0 more):dI (L++[mark]) more:=by
 refine⟨h.nd,λp=>?_,λk n=>?_,?_⟩
 .rw[h.tt p,P7,ABT,KG,Nat.add_zero];show Fp _ (topics mark)=_;apply Jp;intro t _;rw[j.tt]
  congr 1
  funext r;rw[LU]
 .obtain⟨m,t,z,I,rfl⟩:=h.key k n;obtain⟨r,h1,h2,rfl⟩:=j.key m z;refine⟨r++[t],by simp[h1],λx B=>?_,(LU r t).symm⟩;rcases xq.mp B with q|q
  .exact h2 x q
  .have:x=t:=by simpa using q
   lia
 .have h1:=h.len;have h2:=j.len;rw[xS,zW,za];lia
theorem dI.da(h:dI L kvs)(n:L.length<=3)(j:k∈CK kvs):k∈MS:=by obtain⟨r,h1,h2,rfl⟩:=h.key k j;exact CE.da Om h2
theorem FF(j:∀t∈r,t<12):∀q:Query,holds ⟨r,words,day⟩ q=Vc words day q (maskOf r)
 | .topic m=>by
  show r.any (λt=>m.testBit t)=(topics (maskOf r)).any λt=>m.testBit t;rw[zY,AAW,AAW];constructor
  .rintro⟨t,n,h⟩;exact⟨t,BI.mpr ⟨j t n,by rw[Au];exact xR n⟩,h⟩
  .rintro⟨t,n,h⟩;have:=(BI.mp n).2;rw[Au]at this;exact⟨t,xI this,h⟩
 | .word _=>rfl
 | .until _=>rfl
 | .since _=>rfl
 | .not a=>by show(!holds _ a)= !Vc words day a _;rw[FF j a]
 | .and a b=>by show(holds _ a && holds _ b)=(Vc words day a _ && Vc words day b _);rw[FF j a,FF j b]
 | .or a b=>by show(holds _ a|| holds _ b)=(Vc words day a _|| Vc words day b _);rw[FF j a,FF j b]
theorem nP(h:dI p.marks kvs):yes q p=V1 (Vc p.words p.day q) kvs:=by rw[h.tt];unfold yes meanings;rw[List.countP_map];apply List.countP_congr;intro r j;show holds ⟨r,p.words,p.day⟩ q=true↔_;rw[FF (R8 j).2]
theorem pB(h:dI p.marks kvs):(meanings p).length=V1 (λ_=>true) kvs:=by rw[h.tt];unfold meanings;rw[xH];simp
theorem ja(h:m<4096)(n:m≠0):0< (topics m).length:=by obtain⟨t,j⟩:=AAN n;exact AAy (BI.mpr ⟨Q9 h j,j⟩)
theorem Ge(m:Nat):(topics m).length<=12:=size_le m
theorem Q0(c:Nat):∀l:List Nat,(l.map λ_=>c).sum=l.length*c
 |[]=>by simp
 |a::l=>by rw[yE,ACH,Q0 c l,xg,Nat.succ_mul];lia
theorem LR:∀l:List Nat,(∀m∈l,m<4096/\m≠0)->0< (choices l).length/\(choices l).length ∣27720 ^ l.length
 |[],_=>⟨Dc,by simp[choices]⟩
 |m::l,h=>by
  obtain⟨h1,h2⟩:=LR l λx z=>h x (by simp[z]);have j:=h m (by simp);have e:(choices (m::l)).length=(topics m).length* (choices l).length:=by rw[choices,List.length_flatMap];simp;exact Q0 _ _
  rw[e];have q:=ja j.1 j.2;refine⟨Nat.mul_pos q h1,?_⟩;rw[xg,za,AAk];refine Nat.mul_dvd_mul h2 ?_;have B:=Ge m;have:∀n,n<13->0<n->n ∣27720:=by decide
  exact this _ Om q
theorem df(q:Query)(p:Vbptal.Paper):yes q p<=(meanings p).length:=List.countP_le_length
theorem Ei(ok:GQ p):0< (meanings p).length:=by unfold meanings;rw[xH];exact(LR p.marks ok.mlt).1
theorem ZX(ok:GQ p):(meanings p).length ∣27720 ^ 3:=by unfold meanings;rw[xH];refine Nat.dvd_trans (LR p.marks ok.mlt).2 (Nat.pow_dvd_pow _ ok.Wh)
theorem Im(ok:GQ p):Vbptal.likely q p=(yes q p / Nat.gcd (meanings p).length (yes q p),(meanings p).length / Nat.gcd (meanings p).length (yes q p)):=by
 unfold Vbptal.likely;dsimp only;have h:=Ei ok;have j:Nat.gcd (yes q p) (meanings p).length≠0:=λe=>by have:=(Nat.gcd_eq_zero_iff.mp e).2;lia
 rw[xJ j,Nat.gcd_comm]
theorem fM(ok:GQ p):0< (Vbptal.likely q p).2/\(Vbptal.likely q p).2 ∣27720 ^ 3:=by rw[Im ok];have h:=Ei ok;have hd:Nat.gcd (meanings p).length (yes q p) ∣ (meanings p).length:=Nat.gcd_dvd_left _ _;refine⟨?_,Nat.dvd_trans (Nat.div_dvd_of_dvd hd) (ZX ok)⟩;exact Nat.div_pos (Nat.le_of_dvd h hd) (Nat.pos_of_dvd_of_pos hd h)
theorem SK(ok:GQ p):(Vbptal.likely q p).1=0↔yes q p=0:=by
 rw[Im ok];have h:=Ei ok;have hd:Nat.gcd (meanings p).length (yes q p) ∣yes q p:=Nat.gcd_dvd_right _ _;have j:0<Nat.gcd (meanings p).length (yes q p):=Nat.pos_of_dvd_of_pos (Nat.gcd_dvd_left _ _) h;constructor
 .intro e;have:=ABY hd;dsimp only at e;rw[e]at this;lia
 .intro e;dsimp only;rw[e];simp
noncomputable abbrev NN:Nat:=27720 ^ 3
def Ox(f:Frac):Nat:=NN / f.2*f.1
def sk(f:Frac):Prop:=0<f.2/\f.2 ∣NN
theorem jM(q:sk a)(z:sk b):lessF a b=decide (Ox a<Ox b):=by
 unfold lessF Ox;have h1:=ABY q.2;have h2:=ABY z.2;have I:0<NN:=by decide
 rw[zY,yN,yN];generalize M:NN / a.2=x at*;generalize N:NN / b.2=y at*;have j:0<x*a.2:=by lia
 have J:0<x:=AB0 j;have L:0<y:=AB0 (by lia:0<y*b.2);have e1:x*a.1* (a.2*b.2)=NN* (a.1*b.2):=by rw[<-h1];simp only[AAk,Nat.mul_left_comm,ABd]
 have B:y*b.1* (a.2*b.2)=NN* (b.1*a.2):=by rw[<-h2];simp only[AAk,Nat.mul_left_comm,ABd]
 have n:0<a.2*b.2:=Nat.mul_pos q.1 z.1;constructor
 .intro h;have:=Nat.mul_lt_mul_of_pos_left h I;rw[<-e1,<-B]at this;exact Nat.lt_of_mul_lt_mul_right this
 .intro h;have:=Nat.mul_lt_mul_of_pos_right h n;rw[e1,B]at this;exact Nat.lt_of_mul_lt_mul_left this
abbrev Rk:=Nat×Frac
def before(a b:Rk):Prop:=Ox b.2<Ox a.2\/(Ox a.2=Ox b.2/\a.1<b.1)
theorem Nk:∀{l:List Rk},y∈putRanked x l↔y=x\/y∈l
 |[]=>by simp[putRanked]
 |z::l=>by
  unfold putRanked;split
  .simp
  .simp[Nk (l:=l)];constructor
   .rintro(h|h|h)<;> simp[h]
   .rintro(h|h|h)<;> simp[h]
theorem Ll:∀{l:List Rk},(putRanked x l).Perm (l++[x])
 |[]=>AAT _
 |z::l=>by
  unfold putRanked;split
  .exact(List.perm_append_comm (l₁:=[x]) (l₂:=z::l))
  .exact List.Perm.cons z Ll
theorem Iz(I:sk x.2):∀{l:List Rk},(∀y∈l,sk y.2/\y.1<x.1)->l.Pairwise before->(putRanked x l).Pairwise before
 |[],_,_=>by simp[putRanked]
 |z::l,h,J=>by
  have hz:=h z (by simp);have n:=yS.mp J;unfold putRanked;rw[jM hz.1 I];by_cases B:Ox z.2<Ox x.2
  .rw[xQ (xR B)];refine yS.mpr ⟨λy j=>?_,J⟩;rcases xb.mp j with rfl|j
   .exact .inl B
   .rcases n.1 y j with q|q
    .exact .inl Om
    .exact .inl Om
  .rw[xJ (by simpa using B)];refine yS.mpr ⟨λy j=>?_,Iz I (λy j=>h y (by simp[j])) n.2⟩;rcases Nk.mp j with rfl|j
   .have:=hz.2;unfold before;lia
   .exact n.1 y j
noncomputable def JE(l:List Rk):List Rk:=l.foldl (λl x=>putRanked x l) []
theorem Wk(l:List Rk)(x:Rk):JE (l++[x])=putRanked x (JE l):=by unfold JE;rw[AAO];rfl
theorem Lu:∀(l:List Rk),(∀y∈l,sk y.2)->(l.Pairwise λa b=>a.1<b.1)->(JE l).Perm l/\(JE l).Pairwise before:=by
 intro l
 induction h:l.length generalizing l with
 |zero=>intro _ _;have:l=[]:=yR.mp h;subst this;exact⟨AAT _,List.Pairwise.nil⟩
 |succ n J=>
  intro j z;have B:l≠[]:=by intro e;subst e;simp at h
  have e:=AAS B;rw[<-e]at j z⊢;rw[Wk];rw[List.pairwise_append]at z;obtain⟨h1,h2⟩:=J l.dropLast (by simp[h]) (λy I=>j y (y3 _ I)) z.1;refine⟨(Ll).trans (List.Perm.append_right _ h1),?_⟩;refine Iz (j _ (by simp)) (λy I=>?_) h2;have q:=h1.mem_iff.mp I;exact⟨j y (y3 _ q),z.2.2 y q _ (by simp)⟩
theorem WY:∀{l m:List Rk},l.Pairwise before->m.Pairwise before->l.Perm m->l=m:=by intro l m j n h;refine List.Perm.eq_of_pairwise (le:=before) (λa b _ _ h1 h2=>?_) j n h;unfold before at h1 h2;lia
noncomputable def Co(s:State)(q:Query):List Rk:=(s.papers.zipIdx.map λx=>(x.2,Vbptal.likely q x.1)).filter λx=>x.2.1 !=0
theorem Ri(s:State)(q:Query):rankedOf s q=JE (Co s q):=rfl
theorem ER(ok:B8 s)(q:Query):(∀y∈Co s q,sk y.2)/\(Co s q).Pairwise (λa b=>a.1<b.1):=by
 constructor
 .intro y z;obtain⟨x,B,rfl⟩:=x5.mp (yH.mp z).1;have I:x.1∈s.papers:=by
   obtain⟨i,hi⟩:=y6 B;rw[List.getElem?_zipIdx]at hi;cases e:s.papers[i]? with
   |none=>rw[e]at hi;cases hi
   |some p=>rw[e]at hi;cases hi;exact xO e
  exact fM (ok.Fy _ I)
 .unfold Co;apply zc;rw[zK];rw[AAe];intro i j hi J n;simp;exact n
theorem Sz(ok:B8 s)(q:Query)(j:l.Perm (Co s q))(n:l.Pairwise before):l=rankedOf s q:=by obtain⟨h1,h2⟩:=ER ok q;obtain⟨z,B⟩:=Lu _ h1 h2;exact WY n B (j.trans z.symm)
noncomputable def GW(s:State)(q:Query)(i:Nat):List Rk:=((s.papers.take i).zipIdx.map λx=>(x.2,Vbptal.likely q x.1)).filter λx=>x.2.1 !=0
theorem Lr(s:State)(q:Query):GW s q s.papers.length=Co s q:=by unfold GW;rw[xm];rfl
theorem ZV(h:s.papers[i]?=some p):GW s q (i+1)=GW s q i++(if(Vbptal.likely q p).1≠0 then[(i,Vbptal.likely q p)]else[]):=by
 have j:(s.papers.take i).length=i:=by have:=(xP.mp h).1;rw[xt];lia
 unfold GW;rw[take_succ h,ABZ,xX,yV,j]
 congr 1
 simp[List.filter_cons]
theorem OK(s:State)(q:Query)(i:Nat):(GW s q i).length<=i:=by unfold GW;refine xr (yI _ _) ?_;simp;lia
noncomputable def jG:Sg->List Int
 | .until d=>[(d:Int),(d:Int)+1]
 | .since d=>[(d:Int) - 1,(d:Int)]
 |_=>[]
theorem kY(s:Sg):jG (Fc s)=jG s:=by cases s<;> rfl
def Bv(l:List Sg):List Int:=l.flatMap jG
theorem BZ(l m:List Sg):Bv (l++m)=Bv l++Bv m:=by unfold Bv;rw[yt]
theorem Xa(l:List Sg):Bv (l.map Fc)=Bv l:=by
 unfold Bv;rw[List.flatMap_map]
 congr 1
 funext s;exact kY s
theorem E5:∀q:Query,(Bv (post q)).length=2*Th q
 | .topic _=>rfl
 | .word _=>rfl
 | .until _=>rfl
 | .since _=>rfl
 | .not a=>by show(Bv (post a++[Sg.not])).length=2*Th a;rw[BZ,xS,E5 a];rfl
 | .and a b=>by show(Bv (post a++(post b++[Sg.amp]))).length=2* (Th a+Th b);rw[BZ,BZ,xS,xS,E5 a,E5 b,Nat.mul_add];rfl
 | .or a b=>by show(Bv (post a++(post b++[Sg.bar]))).length=2* (Th a+Th b);rw[BZ,BZ,xS,xS,E5 a,E5 b,Nat.mul_add];rfl
theorem eB{p q r s z:Prop}(h1:p\/z↔r\/z)(h2:q\/z↔s\/z):(p\/q)\/z↔(r\/s)\/z:=by
 constructor
 .rintro((h|h)|h)
  .exact(h1.mp (.inl h)).imp_left .inl
  .exact(h2.mp (.inl h)).imp_left .inr
  .exact .inr h
 .rintro((h|h)|h)
  .exact(h1.mpr (.inl h)).imp_left .inl
  .exact(h2.mpr (.inl h)).imp_left .inr
  .exact .inr h
theorem P4{j:Type}{x a b:j}:x∈[a,b]↔x=a\/x=b:=by rw[xb,yD]
theorem E6:∀(q:Query)(d:Nat),(d:Int)∈Bv (post q)\/d=0↔d∈daysIn q\/d=0
 | .topic _,d=>or_congr_left ⟨nofun,nofun⟩
 | .word _,d=>or_congr_left ⟨nofun,nofun⟩
 | .until v,d=>by show(d:Int)∈[(v:Int),(v:Int)+1]\/d=0↔d∈[v,v+1]\/d=0;rw[P4,P4];lia
 | .since v,d=>by
  show(d:Int)∈[(v:Int) - 1,(v:Int)]\/d=0↔d∈(if v=0 then[0]else[v - 1,v])\/d=0;rw[P4];by_cases j:v=0
  .rw[xQ j,yD];lia
  .rw[xJ j,P4];lia
 | .not a,d=>by show(d:Int)∈Bv (post a++[Sg.not])\/d=0↔d∈daysIn a\/d=0;rw[BZ,show Bv [Sg.not]=[]from rfl,yJ];exact E6 a d
 | .and a b,d=>by show(d:Int)∈Bv (post a++(post b++[Sg.amp]))\/d=0↔d∈daysIn a++daysIn b\/d=0;rw[BZ,BZ,show Bv [Sg.amp]=[]from rfl,yJ,xq,xq];exact eB (E6 a d) (E6 b d)
 | .or a b,d=>by show(d:Int)∈Bv (post a++(post b++[Sg.bar]))\/d=0↔d∈daysIn a++daysIn b\/d=0;rw[BZ,BZ,show Bv [Sg.bar]=[]from rfl,yJ,xq,xq];exact eB (E6 a d) (E6 b d)
noncomputable def Gk(d:Int):Bool:=decide (0<=d) && decide (d<=999)
theorem Mc{d:Int}(h:Gk d=true):((d.toNat:Nat):Int)=d/\d.toNat<1000:=by obtain⟨h1,h2⟩:=xT.mp h;have h1:=xI h1;have h2:=xI h2;clear h;lia
theorem fq{q r:Query}{L:List Int}(z:L.Pairwise (· < ·))(j:∀d,d∈L↔d∈(0:Int)::(Bv (post q)++Bv (post r))):L.filter Gk=(dayList q r).map λ(n:Nat)=>(n:Int):=by
 have e:L.filter Gk=((L.filter Gk).map Int.toNat).map λ(n:Nat)=>(n:Int):=by rw[yg];refine(ACC _).symm.trans (yu λd hd=>(Mc (yH.mp hd).2).1.symm)
 refine e.trans (x3 (List.map λ(n:Nat)=>(n:Int)) (FR ?_ (zc _ zk) λx=>?_))
 .rw[zK];refine List.Pairwise.imp_of_mem (R:=(· < ·)) (λ{a b}B I h=>?_) (z.filter _);exact Int.ofNat_lt.mp (by rw[(Mc (yH.mp B).2).1,(Mc (yH.mp I).2).1];exact h)
 .have key:((x:Int)∈(0:Int)::(Bv (post q)++Bv (post r)))↔((x==0||(daysIn q++daysIn r).contains x)=true):=by
   rw[xb,xq,zN,zv,zX,xq,or_comm,or_comm (a:=x=0),Int.natCast_eq_zero];exact eB (E6 q x) (E6 r x)
  unfold dayList;rw[yH,yZ,x5,<-key];constructor
  .rintro⟨d,hd,rfl⟩;obtain⟨h1,h2⟩:=yH.mp hd;obtain⟨J,M⟩:=Mc h2;exact⟨M,by rw[J];exact(j d).mp h1⟩
  .rintro⟨h1,h2⟩;exact⟨(x:Int),yH.mpr ⟨(j _).mpr h2,xT.mpr ⟨xR (zm x),xR (ABx.mpr (Nat.le_of_lt_succ h1))⟩⟩,rfl⟩
noncomputable def hX:Sg->List Nat
 | .word w=>[w]
 |_=>[]
def CP(l:List Sg):List Nat:=l.flatMap hX
theorem Ct(l m:List Sg):CP (l++m)=CP l++CP m:=by unfold CP;rw[yt]
theorem UZ(l:List Sg):CP (l.map Fc)=CP l:=by
 unfold CP;rw[List.flatMap_map]
 congr 1
 funext s;cases s<;> rfl
theorem Dj:∀q:Query,CP (post q)=wordsIn q
 | .topic _=>rfl
 | .word _=>rfl
 | .until _=>rfl
 | .since _=>rfl
 | .not a=>by show CP (post a++[Sg.not])=wordsIn a;rw[Ct,Dj a];exact yJ _
 | .and a b=>by show CP (post a++(post b++[Sg.amp]))=wordsIn a++wordsIn b;rw[Ct,Ct,Dj a,Dj b];exact x3 _ (yJ _)
 | .or a b=>by show CP (post a++(post b++[Sg.bar]))=wordsIn a++wordsIn b;rw[Ct,Ct,Dj a,Dj b];exact x3 _ (yJ _)
theorem EE:∀{q:Query},kA q->∀w∈wordsIn q,w<6
 | .topic _,_,w,h=>(yh h).elim
 | .word v,ok,w,h=>by rw[yD.mp h];exact ok
 | .until _,_,w,h=>(yh h).elim
 | .since _,_,w,h=>(yh h).elim
 | .not a,ok,w,h=>EE (q:=a) ok w h
 | .and a b,ok,w,h=>by
  rcases xq.mp (show w∈wordsIn a++wordsIn b from h)with h|h
  .exact EE ok.1 w h
  .exact EE ok.2 w h
 | .or a b,ok,w,h=>by
  rcases xq.mp (show w∈wordsIn a++wordsIn b from h)with h|h
  .exact EE ok.1 w h
  .exact EE ok.2 w h
noncomputable def dbl(l:List Nat):List (List Nat):=l.foldl (λfound w=>found++found.map λj=>j++[w]) [[]]
theorem c0(l:List Nat)(w:Nat):dbl (l++[w])=dbl l++(dbl l).map λj=>j++[w]:=by unfold dbl;rw[AAO];rfl
theorem gO:∀(n:Nat)(l:List Nat),l.length=n->(dbl l).length=2 ^ n
 |0,l,h=>by have:l=[]:=yR.mp h;subst this;rfl
 |n+1,l,h=>by
  have j:l≠[]:=by intro e;subst e;simp at h
  rw[<-AAS j,c0];have:=gO n l.dropLast (by simp[h]);rw[xS,xH,this,za];lia
noncomputable def iG(m:Nat):List Nat:=(List.range 6).filter λw=>m.testBit w
theorem nE:((List.range 64).all λm=>decide (dbl (iG m)=wordSets (iG m)))=true:=by decide+kernel
theorem U4(h:∀w,w<6->(w∈l↔w∈m)):wordSets l=wordSets m:=by
 unfold wordSets
 congr 1
 apply List.filter_congr;intro x _;rw[zY,xk,xk];constructor
 .intro q w n;have:=q w n;have j:w<6:=yZ.mp n;simp only[AAc,zX]at this⊢;rcases this with z|z
  .exact .inl z
  .exact .inr ((h w j).mp z)
 .intro q w n;have:=q w n;have j:w<6:=yZ.mp n;simp only[AAc,zX]at this⊢;rcases this with z|z
  .exact .inl z
  .exact .inr ((h w j).mpr z)
theorem t6(h:64<=n):n / 2 ^ 6≠0:=by intro z;have:n / 2 ^ 6=n / 64:=rfl;lia
theorem ik{W l:List Nat}(L:W.Pairwise (· < ·))(M:∀w∈l,w<6)(B:∀w,w∈W↔w∈l):dbl W=wordSets l:=by
 have I:∀w∈W,w<6:=λw N=>M w ((B w).mp N);have e:W=iG (maskOf W):=by
  apply FR L
  .exact zc _ zk
  .intro x;unfold iG;rw[yH,yZ,Au,yN];exact⟨λh=>⟨I x h,h⟩,λh=>h.2⟩
 have n:maskOf W<64:=by
  apply yL;intro q;obtain⟨j,J⟩:∃j,6<=j/\(maskOf W).testBit j=true:=by have z:maskOf W / 2 ^ 6≠0:=t6 (Nat.le_of_not_lt q);obtain⟨i,hi⟩:=AAN z;rw[Nat.testBit_div_two_pow]at hi;exact⟨i+6,Om,by simpa[Nat.add_comm]using hi⟩
  rw[Au,yN]at J;have:=I j J.2;lia
 have h1:=xI (xk.mp nE (maskOf W) (yZ.mpr n));rw[<-e]at h1;rw[h1];exact U4 λw _=>B w
def Fw(q r:Query)(d:Nat)(w:List Nat)(s:Nat):Bool:=Vc w d q s !=Vc w d r s
noncomputable def Lc(q r:Query)(d:Nat)(w:List Nat):Option Meant:=(topicSets.map λt=>(⟨t,w,d⟩:Meant)).find? λx=>holds x q !=holds x r
theorem bw(q r:Query):apart q r=(dayList q r).findSome? λd=>(wordSets (wordsIn q++wordsIn r)).findSome? λw=>Lc q r d w:=by
 unfold apart trials;rw[List.find?_flatMap]
 congr 1
 funext d;rw[List.find?_flatMap];rfl
theorem Uz:∀{l:List z},(∀x∈l,p x=q x)->l.find? p=l.find? q
 |[],_=>rfl
 |a::l,h=>by have j:=h a (by simp);rw[zB,zB,j,Uz λx n=>h x (by simp[n])]
theorem Xl(q r:Query)(d:Nat)(w:List Nat):Lc q r d w=(MS.find? (Fw q r d w)).map λs=>⟨topics s,w,d⟩:=by
 unfold Lc MS;rw[List.find?_map,List.find?_map];have:topicSets.find? ((λx=>holds x q !=holds x r)∘λt=>(⟨t,w,d⟩:Meant))=topicSets.find? (Fw q r d w∘maskOf):=by apply Uz;intro t j;simp only[Function.comp,Fw,Vc,Q5 t j]
 rw[this,Option.map_map];cases h:topicSets.find? (Fw q r d w∘maskOf)with
 |none=>rfl
 |some t=>have:=zw h;simp[Q5 t this]
theorem OH(q r:Query)(d:Nat)(w:List Nat):Fu w d q ^^^ Fu w d r=bitsOf (Fw q r d w) MS:=by unfold Fu;rw[dY];rfl
theorem dR(h:Fu w d q ^^^ Fu w d r=0):Lc q r d w=none:=by rw[OH,Ru]at h;rw[Xl,AAI.mpr (λx j=>by rw[h x j];decide)];rfl
theorem PL{n q:Type}{f:n->Option q}{l:List n}{i:Nat}{x:n}{b:q}(hi:l[i]?=some x)(z:f x=some b)(h:∀(j:Nat)(y:n),j<i->l[j]?=some y->f y=none):l.findSome? f=some b:=by
 induction l generalizing i with
 |nil=>simp at hi
 |cons a l B=>
  cases i with
  |zero=>simp at hi;subst hi;simp[List.findSome?_cons,z]
  |succ i=>have:=h 0 a Om rfl;rw[List.findSome?_cons,this];exact B (by simpa using hi) λj y J I=>h (j+1) y Om (by simpa using I)
theorem Ng{n q:Type}{f:n->Option q}{l:List n}(h:∀(j:Nat)(y:n),l[j]?=some y->f y=none):l.findSome? f=none:=by rw[List.findSome?_eq_none_iff];intro x z;obtain⟨j,B⟩:=y6 z;exact h j x B
noncomputable def nextT(l:List Nat):Nat:=match l.getLast? with
 |none=>0
 |some x=>x+1
def J4(l:List Nat):List (List Nat):=(List.range (12 - nextT l)).map λj=>l++[nextT l+j]
def Iw(j:List (List Nat)):List (List Nat):=j.flatMap J4
theorem cc:topicSets=[[]]++(Iw [[]]++(Iw (Iw [[]])++Iw (Iw (Iw [[]])))):=by decide+kernel
noncomputable def lvl:Nat->List (List Nat)
 |0=>[[]]
 |n+1=>Iw (lvl n)
noncomputable def lX:Nat->List (List Nat)
 |0=>[[]]
 |n+1=>lX n++lvl (n+1)
theorem jg:topicSets=lX 3:=by rw[cc];show _=(([[]]++Iw [[]])++Iw (Iw [[]]))++Iw (Iw (Iw [[]]));rw[yB,yB]
theorem rb:∀n,n<=3->(∀l∈lvl n,l.length<=3/\∀t∈l,t<12)/\(lvl n).length<=300:=by
 have:((List.range 4).all λn=>((lvl n).all λl=>decide (l.length<=3) && l.all λt=>decide (t<12)) && decide ((lvl n).length<=300))=true:=by decide+kernel
 intro n z;have h:=xk.mp this n (yZ.mpr Om);rw[x4]at h;refine⟨λl j=>?_,xI h.2⟩;have h2:=xk.mp h.1 l j;rw[x4]at h2;exact⟨xI h2.1,λt q=>xI (xk.mp h2.2 t q)⟩
theorem k8:∀n,n<=3->(lX n).length<=2000:=by
 have:((List.range 4).all λn=>decide ((lX n).length<=2000))=true:=by decide+kernel
 intro n j;exact xI (xk.mp this n (yZ.mpr Om))
theorem Z2(p:Nat->Bool)(L:List Nat)(x:Nat):bitsOf p (L++[x])=bitsOf p L+if p x=true then 2 ^ L.length else 0:=by rw[NZ];show _+2 ^ L.length* ((if p x=true then 1 else 0)+2*0)=_;by_cases h:p x=true<;> simp[h]
def DL(p:Nat->Bool)(i:Nat):List Nat:=((MS.take i).zipIdx.filter λx=>p x.1).map λx=>2 ^ x.2
theorem IJ(h:MS[i]?=some m):DL p (i+1)=DL p i++(if p m=true then[2 ^ i]else[]):=by
 have j:(MS.take i).length=i:=by have:=(xP.mp h).1;rw[xt];lia
 unfold DL;rw[take_succ h,ABZ,yV,xX,j]
 congr 1
 by_cases n:p m=true<;> simp[n]
theorem O1(p:Nat->Bool):∀i,i<=MS.length->(DL p i).sum=bitsOf p (MS.take i)
 |0,_=>by simp[DL,bitsOf]
 |i+1,hi=>by have h:MS[i]?=some MS[i]:=xW Om;rw[IJ h,take_succ h,Z2,List.sum_append,O1 p i Om,xt,AAf Om];by_cases j:p MS[i]=true<;> simp[j]
theorem Ze(p:Nat->Bool):(DL p MS.length).sum=bitsOf p MS:=by rw[O1 p _ (xZ _),xm]
theorem ZG(p:Nat->Bool)(i:Nat):(DL p i).length<=i:=by unfold DL;rw[xH];refine xr (yI _ _) ?_;simp;lia
def D7(n:Nat)(i:Nat):List Nat:=((MS.take i).zipIdx.filter λx=>n.testBit x.2).map (·.1)
theorem IP(h:MS[i]?=some m):D7 n (i+1)=D7 n i++(if n.testBit i=true then[m]else[]):=by
 have j:(MS.take i).length=i:=by have:=(xP.mp h).1;rw[xt];lia
 unfold D7;rw[take_succ h,ABZ,yV,xX,j]
 congr 1
 by_cases q:n.testBit i=true<;> simp[q]
theorem KI(p:Nat->Bool):∀i,i<=MS.length->D7 (bitsOf p MS) i=(MS.take i).filter p
 |0,_=>by simp[D7]
 |i+1,hi=>by
  have h:MS[i]?=some MS[i]:=xW Om;rw[IP h,take_succ h,yV,KI p i Om,BA,h]
  congr 1
  by_cases j:p MS[i]=true<;> simp[j]
theorem Yp(p:Nat->Bool):D7 (bitsOf p MS) MS.length=MS.filter p:=by rw[KI p _ (xZ _),xm]
theorem Yw(n i:Nat):(D7 n i).length<=i:=by unfold D7;rw[xH];refine xr (yI _ _) ?_;simp;lia
theorem R6:∀{l:List Nat},(l.filter p)[0]?=l.find? p
 |[]=>rfl
 |a::l=>by
  by_cases h:p a=true
  .rw[zH h,AAz h];rfl
  .rw[zI h,List.find?_cons_of_neg h];exact R6
theorem ij:MS.length=topicSets.length:=by unfold MS;rw[xH]
theorem tT{i:Nat}{t:List Nat}(h:topicSets[i]?=some t):MS[i]?=some (maskOf t):=by unfold MS;rw[xh,h];rfl
end CE
end
section
set_option linter.all false
namespace CE
open PySem
def iD(xs:Array Nat):Prop:=xs.toList.Pairwise (· < ·)
theorem UG(h:iD xs)(n:i<j)(q:j<xs.size)(d:Nat):xs.getD i d<xs.getD j d:=by
 have hi:i<xs.size:=by lia
 have:=(AAe.mp h) i j (by simpa using hi) (by simpa using q) n;simpa[Array.getD,hi,q]using this
theorem UC(h:iD xs)(j:Nat):∀(f lo hi:Nat),lo<=hi->hi<=xs.size->hi - lo<2 ^ f->(∀i,i<lo->xs.getD i j<j)->(∀i,hi<=i->i<xs.size->¬xs.getD i j<j)->
  let r:=SetTable.below.go xs j f lo hi
  r<=xs.size/\(∀i,i<r->xs.getD i j<j)/\∀i,r<=i->i<xs.size->¬xs.getD i j<j
 |0,lo,hi,h1,h2,I,z,B=>by
  have:lo=hi:=by simp at I;lia
  subst this;exact⟨h2,z,B⟩
 |f+1,lo,hi,h1,h2,I,z,B=>by
  unfold SetTable.below.go;by_cases n:lo<hi
  .rw[xQ n];have J:lo<=(lo+hi) / 2:=by lia
   have L:(lo+hi) / 2<hi:=by lia
   rw[za]at I;by_cases q:xs.getD ((lo+hi) / 2) j<j
   .simp only[q,AA9];refine UC h j f _ hi Om h2 Om (λi M=>?_) B;by_cases e:i=(lo+hi) / 2
    .rw[e];exact q
    .exact ABG (UG h Om Om j) q
   .simp only[q,ABu];refine UC h j f lo _ J Om Om z (λi O N=>?_);by_cases e:i=(lo+hi) / 2
    .rw[e];exact q
    .have:=UG h (show(lo+hi) / 2<i by lia) N j;lia
  .rw[xJ n];have:lo=hi:=by lia
   subst this;exact⟨h2,z,B⟩
theorem qX(n:Nat):n<2 ^ n:=Nat.lt_two_pow_self
theorem Ua(h:iD xs)(j:Nat):SetTable.below xs j<=xs.size/\(∀i,i<SetTable.below xs j->xs.getD i j<j)/\∀i,SetTable.below xs j<=i->i<xs.size->¬xs.getD i j<j:=by have:=UC h j xs.size 0 xs.size (xi _) (xZ _) (by simpa using qX xs.size) (λi q=>by lia) (λi q r=>by lia);exact this
theorem Zt(h:iD xs)(hi:i<=xs.size)(h1:∀k,k<i->xs.getD k j<j)(h2:i<xs.size->¬xs.getD i j<j):SetTable.below xs j=i:=by
 obtain⟨I,z,B⟩:=Ua h j;apply yL;intro q;by_cases n:SetTable.below xs j<i
 .exact B _ (xZ _) Om (h1 _ n)
 .have:i<SetTable.below xs j:=by lia
  exact h2 Om (z i this)
theorem getD_some{xs:Array Nat}{i d x:Nat}(h:xs[i]?=some x):xs.getD i d=x:=by rw[Array.getD_eq_getD_getElem?,h];rfl
theorem dN{xs:Array Nat}(h:iD xs){i x:Nat}(j:xs[i]?=some x):SetTable.below xs (x+1)=i+1:=by
 have hi:i<xs.size:=by apply yL;intro q;rw[AA0 Om]at j;cases j
 have e:xs.getD i (x+1)=x:=getD_some j;refine Zt h Om (λk n=>?_) (λn=>?_)
 .by_cases q:k=i
  .rw[q,e];lia
  .have:=UG h (show k<i by lia) hi (x+1);lia
 .have:=UG h (show i<i+1 by lia) n (x+1);lia
theorem fR(h:iD xs):SetTable.below xs 0=0:=Zt h (xi _) (λk q=>by lia) (λ_=>ACA _)
theorem i0(h:iD xs)(M:¬xs[SetTable.below xs j]?=some j):iD (SetTable.insertAt xs (SetTable.below xs j) j):=by
 obtain⟨b1,N,L⟩:=Ua h j;unfold iD;rw[SetTable.toList_insertAt];have O:∀a∈xs.toList.take (SetTable.below xs j),a<j:=by
  intro a z;obtain⟨i,hi,rfl⟩:=AAZ z;rw[xt]at hi;have I:i<SetTable.below xs j:=by lia
  have n:i<xs.size:=by simp at hi;lia
  have:=N i I;simpa[Array.getD,n]using this
 have U:∀a∈xs.toList.drop (SetTable.below xs j),j<a:=by
  intro a z;obtain⟨i,hi,rfl⟩:=AAZ z;rw[zh]at hi;have n:SetTable.below xs j+i<xs.size:=by simp at hi;lia
  have Y:=L (SetTable.below xs j+i) Om n;have aa:xs[SetTable.below xs j+i]≠j:=by
   intro e;by_cases q:i=0
   .subst q;apply M;rw[ye Om];simpa using e
   .have J:SetTable.below xs j<xs.size:=by lia
    have h4:=UG h (show SetTable.below xs j<SetTable.below xs j+i by lia) n j;have h5:=L (SetTable.below xs j) (xZ _) J;have h6:xs.getD (SetTable.below xs j+i) j=j:=by simp[Array.getD,n,e]
    lia
  simp[Array.getD,n]at Y;simp;lia
 have hw:xs.toList=xs.toList.take (SetTable.below xs j)++xs.toList.drop (SetTable.below xs j):=(AAU _ _).symm;have B:(xs.toList.take (SetTable.below xs j)++xs.toList.drop (SetTable.below xs j)).Pairwise (· < ·):=by rw[<-hw];exact h
 rw[List.pairwise_append]at B⊢;refine⟨B.1,yS.mpr ⟨U,B.2.1⟩,λa z b J=>?_⟩;rcases xb.mp J with q|q
 .rw[q];exact O a z
 .exact B.2.2 a z b q
structure DO(led:Bool)(t:SetTable):Prop where
 up:iD t.place
 wb:t.dummies= #[]
 led:t.led=led
theorem DO.fresh(led:Bool):DO led (.fresh 0 0 led):=⟨by simp[iD,SetTable.fresh],rfl,rfl⟩
theorem DO.standIn{led:Bool}{t:SetTable}(h:DO led t)(n:Nat):DO led (t.standIn n):=by refine⟨?_,rfl,h.led⟩;show iD (Array.range n);unfold iD;rw[Array.toList_range];exact zk
theorem iB(j:Nat):SetTable.has #[] j=false:=by simp[SetTable.has]
theorem fz(h:DO led t)(n:t.slot j=.empty):¬t.place[SetTable.below t.place j]?=some j:=by intro e;unfold SetTable.slot at n;simp[e]at n
theorem X6(h:DO led t)(j:Nat):t.slot j≠ .dummy:=by unfold SetTable.slot;rw[h.wb,iB];dsimp only;split<;> simp
theorem UR(h:DO led t)(z:Nat->Int)(B:Int):∀(f:Nat)(p:SetTable.Probe)(j:Nat)(d:Option Nat),p.dummy=none->SetTable.probe.go t z B f p=some (.empty j d)->d=none/\t.slot j=.empty
 |0,p,j,d,_,e=>by cases e
 |f+1,p,j,d,n,e=>by
  unfold SetTable.probe.go at e;split at e
  .rename_i q;cases e;exact⟨n,q⟩
  .rename_i q;exact absurd q (X6 h _)
  .split at e
   .cases e
   .refine UR h z B f _ j d ?_ e;unfold SetTable.advance;split
    .exact n
    .exact n
theorem Z9(h:DO led t)(e:t.freeSlot z=some (j,b)):t.slot j=.empty:=by
 unfold SetTable.freeSlot at e;split at e
 .rename_i B d n;unfold SetTable.probe at n;obtain⟨rfl,q⟩:=UR h _ _ _ _ _ _ rfl n;cases e;exact q
 .cases e
theorem DO.put{led:Bool}{t:SetTable}(h:DO led t){j:Nat}(n:t.slot j=.empty):DO led (t.put j).1:=by refine⟨i0 h.up (fz h n),?_,h.led⟩;show(if SetTable.has t.dummies j=true then _ else t.dummies)= #[];rw[h.wb,iB];rfl
theorem DO.layNew{led:Bool}{t:SetTable}(h:DO led t)(es:Array (Int×Value))(n:Int)(x:Value):DO led (layNew t es n x).2.1:=by
 unfold PySem.layNew;split
 .rename_i slot z q;have j:=h.put (Z9 h q);show DO led ((t.put slot).1.orStandIn _);unfold SetTable.orStandIn;split
  .exact j
  .exact j.standIn _
 .exact h.standIn _
theorem nj{mask n q:Nat}{led plain:Bool}{I:Array Int}{t:SetTable}{o:Array Nat}(e:SetTable.laid mask n q led plain I=some (t,o)):DO led t:=by
 unfold SetTable.laid at e;cases J:SetTable.layClean mask I with
 |none=>rw[J]at e;cases e
 |some owner=>
  rw[J]at e;simp only[Option.bind_eq_bind,Option.bind_some,pure,Option.some.injEq,Prod.mk.injEq]at e;obtain⟨e1,_⟩:=e;subst e1;refine⟨?_,rfl,rfl⟩;unfold iD;simp only[List.toList_toArray];rw[zK];have:∀(l:List Nat),l.Pairwise (· < ·)->(l.filterMap λj=>(owner.getD j none).map λx=>(j,x)).Pairwise λa b=>a.1<b.1:=by
   intro l
   induction l with
   |nil=>intro _;exact List.Pairwise.nil
   |cons a l L=>
    intro M;have z:=yS.mp M;rw[zf];split
    .exact L z.2
    .rename_i b N;refine yS.mpr ⟨λc O=>?_,L z.2⟩;obtain⟨y,U,B⟩:=AAh.mp O;obtain⟨Y,_,rfl⟩:=xu.mp N;obtain⟨z2,_,rfl⟩:=xu.mp B;exact z.1 y U
  exact this _ zk
theorem DO.relayAll{led:Bool}{t:SetTable}(h:DO led t)(es:Array (Int×Value))(n:Nat):DO led (relayAll t es n).2.1:=by
 unfold PySem.relayAll;split
 .rename_i t' order e;dsimp only;split
  .have:=nj e;rw[h.led]at this;exact this
  .exact h.standIn _
 .exact h.standIn _
end CE
end
section
set_option linter.all false
set_option maxRecDepth 100000
namespace CE
open PySem PyProof.Rows
noncomputable def RL(e:Int×Value):Int:=match e.2 with
 | .int k _=>k
 |_=>0
def Ol(l:List (Int×Value)):Prop:=∀e∈l,∃k t,e=(hashInt k,Value.int k t)
def HL(led:Bool)(h:Heap)(a:Addr)(ks:List Int):Prop:=
 ∃o es ep t,h.get? a=some o/\o.ExactSet/\o.data=.set es ep t/\Ol es.toList/\es.toList.map RL=ks/\ks.Nodup/\es.size<scanBound/\t.fits es.size=true/\DO led t
theorem HL.keep(x:HL led h a ks)(k:∀o,h.get? a=some o->h'.get? a=some o):HL led h' a ks:=by obtain⟨o,es,ep,t,j,r⟩:=x;exact⟨o,es,ep,t,k o j,r⟩
section
variable{prog:Program}{w:World}{A:Around}{E:Value->Shared->Prop}{s:Shared}
theorem Ol.elems(h:Ol l):ElemsOf (intKind prog w) l:=by intro e j;obtain⟨k,t,rfl⟩:=h e j;exact⟨⟨k,ABp _ _ _ _,rfl⟩,rfl⟩
theorem Ol.perm(h:Ol l)(p:j.Perm l):Ol j:=λe n=>h e (p.mem_iff.mp n)
theorem Ol.push(h:Ol l)(k:Int)(t:Tok):Ol (l++[(hashInt k,Value.int k t)]):=by
 intro e j;rcases xq.mp j with q|q
 .exact h e q
 .exact⟨k,t,yD.mp q⟩
theorem key_is(h:Ol l)(j:e∈l):(intKind prog w).is k e.2=true↔RL e=k:=by
 obtain⟨n,t,rfl⟩:=h e j;constructor
 .intro q;exact(intKind prog w).inj _ _ _ (ABp _ _ _ _) q
 .intro q;have q:n=k:=q;subst q;exact ABp _ _ _ _
theorem Zn{h:Heap}{a:Addr}{o:Obj}{es es':Array (Int×Value)}{ep:Nat}{t t':SetTable}(j:h.get? a=some o)(hd:o.data=.set es ep t):
  (h.update a (Obj.putSet es' t')).get? a=some {o with data:=.set es' (ep+1) t'}:=by
 rw[<-putSet_of es' t' hd];exact yj _ j (by rw[putSet_of es' t' hd];rfl)
theorem bU{led:Bool}{g:Bool->Sem Unit}(hg:∀(b:Bool)(s₁:Shared)(M:Unit->Shared->Prop),M () s₁->wpAny (model prog w) A (g b) M E s₁)
  {a:Addr} {o:Obj} {es j:Array (Int×Value)} {ep:Nat} {t n:SetTable} (N:s.heap.get? a=some o) (O:o.ExactSet) (hd:o.data=.set es ep t)
  (hz:Ol j.toList) (U:(j.toList.map RL).Nodup) (Y:j.size<scanBound) (hf:n.fits j.size=true) (hT:DO led n) {wd:Bool} {R:Option Bool->Shared->Prop}
  (h:∀h' B,Heap.SameBut a s.heap h'->HL led h' a B->B.Perm (j.toList.map RL)->R (some true) {s with heap:=h'}):
  wpAny (model prog w) A (do
    storeSet a j n
    if(!wd && n.tooFull)=true then do
      g (relayAll n j (SetTable.grown j.size)).2.2
      storeSet a (relayAll n j (SetTable.grown j.size)).1 (relayAll n j (SetTable.grown j.size)).2.1
      pure (some true)
     else pure (some true)) R E s:=by
 have z:=Zn (es':=j) (t':=n) N hd;have I:=yi s.heap a (Obj.putSet j n);refine xG (wpAny_storeSet_of N hd ?_ (ABk Y));split
 .have p2:=relayAll_perm n j (SetTable.grown j.size);have f2:=relayAll_fits n j (SetTable.grown j.size);have J:=hT.relayAll j (SetTable.grown j.size);generalize relayAll n j (SetTable.grown j.size)=rl at p2 f2 J⊢;obtain⟨q,t2,gv⟩:=rl;dsimp only at p2 f2 J⊢;have z2:q.size=j.size:=by have:=p2.length_eq;simpa using this
  have b2:q.size<scanBound:=by lia
  refine xG (hg _ _ _ ?_);refine xG (wpAny_storeSet_of z rfl ?_ (ABk b2));have L:=Zn (es':=q) (t':=t2) z rfl;refine xU (h _ (q.toList.map RL) (I.trans (yi _ a _)) ⟨_,q,_,t2,L,O,rfl,hz.perm p2,rfl,?_,b2,f2,J⟩ (p2.map _));exact(p2.map RL).nodup_iff.mpr U
 .exact xU (h _ _ I ⟨_,j,_,n,z,O,rfl,hz,rfl,U,Y,hf,hT⟩ (AAT _))
theorem add_int(hS:HL led s.heap a ks)(aa:ks.length+1<scanBound)
  (h:∀b h' n,Heap.SameBut a s.heap h'->HL led h' a n->(∀x,x∈n↔x∈ks\/x=k)->n.length<=ks.length+1->Q b {s with heap:=h'}):
  wpAny (model prog w) A (setAddHashed a (.int k tk) (hashInt k)) Q E s:=by
 obtain⟨o,es,ep,t,ho,hx,hd,hz,B,hn,hb,hf,hT⟩:=id hS;have ag:es.size=ks.length:=by rw[<-B];simp
 have J:ElemsOf (intKind prog w) es.toList:=hz.elems;unfold setAddHashed setAddHashedIn;refine zQ (xG (wpAny_setState_of ho hd hf ?_));dsimp only;rw[byScan_of (knd:=intKind prog w) rfl hb J];simp only[↓reduceIte];unfold setAddByScan;refine xG (xG (AAm ?_));refine xG (wpAny_setScan_of (knd:=intKind prog w) (k:=k) (ABp _ _ _ _) ho hd hf J ?_);cases hr:List.findIdx? (λe=>(intKind prog w).is k e.2) es.toList with
 |some j=>
  dsimp only;obtain⟨hj,ab,_⟩:=List.findIdx?_eq_some_iff_getElem.mp hr;have hk:k∈ks:=by rw[<-B];exact x5.mpr ⟨_,AAX hj,(key_is hz (AAX hj)).mp ab⟩
  refine xU (xU ?_);have e:s={s with heap:=s.heap}:=by cases s;rfl
  rw[e];exact h _ s.heap ks (Heap.SameBut.refl a s.heap) hS (λx=>⟨.inl,λq=>q.elim id λq=>q▸hk⟩) (z0 _)
 |none=>
  dsimp only;have hk:k∉ks:=by intro q;rw[<-B]at q;obtain⟨e,he,ae⟩:=x5.mp q;have q1:=List.findIdx?_eq_none_iff.mp hr e he;rw[(key_is (prog:=prog) (w:=w) hz he).mpr ae]at q1;cases q1
  have lp:=layNew_perm t es (hashInt k) (.int k tk);have lf:=layNew_fits t es (hashInt k) (.int k tk);have lu:=hT.layNew es (hashInt k) (.int k tk);change wpAny _ _ (do _) _ _ _;generalize layNew t es (hashInt k) (.int k tk)=ln at lp lf lu⊢;obtain⟨z,t1,wd,gv⟩:=ln;dsimp only at lp lf lu⊢;rw[Array.toList_push]at lp;have L:Ol z.toList:=(hz.push k tk).perm lp;have I:(z.toList.map RL).Perm (ks++[k]):=by have:=lp.map RL;rw[xX,B]at this;exact this
  have M:(z.toList.map RL).Nodup:=by
   refine I.nodup_iff.mpr (yX.mpr ⟨hn,by simp,λx af y hy q=>?_⟩);have:y=k:=by simpa using hy
   subst this;subst q;exact hk af
  have N:z.size<scanBound:=by have:=I.length_eq;simp at this;lia
  have fin:∀h' n,Heap.SameBut a s.heap h'->HL led h' a n->n.Perm (z.toList.map RL)->Q true {s with heap:=h'}:=by intro h' n O U Y;have p2:=Y.trans I;refine h true h' n O U (λx=>?_) (by rw[p2.length_eq];simp);rw[p2.mem_iff,xq,yD]
  have gw:∀(b:Bool)(s₁:Shared)(Q':Unit->Shared->Prop),Q' () s₁->wpAny (model prog w) A (match b with|true=>rule "set.scan.the-table-gave-way"|false=>pure ()) Q' E s₁:=
   λb s₁ Q' hq=>by cases b<;> first|exact xU hq|exact AAm hq
  refine xG (gw _ _ _ ?_);split
  .refine xG ?_;rw[hashByValue_scannable 8 rfl];refine xU ?_;refine bU gw ho hx hd L M N lf lu λh' n O U Y=>?_;exact xU (fin h' n O U Y)
  .refine xG (xU ?_);simp only[↓reduceIte];refine bU gw ho hx hd L M N lf lu λh' n O U Y=>?_;exact xU (fin h' n O U Y)
end
noncomputable def NO(w:World):Bool:= !w.params.followText "set-order"
section
variable{prog:Program}{w:World}{A:Around}{E:Value->Shared->Prop}{s:Shared}
abbrev DS(w:World):Obj:={cls:=.type "set",dict:=none,data:=.set #[] 0 (.fresh 0 0 (NO w))}
theorem lF:HL (NO w) (s.heap.push (DS w)) s.heap.objs.size []:=
 ⟨_,#[],0,_,xf _ rfl,⟨rfl,rfl,rfl⟩,rfl,λe j=>by simp at j,rfl,ACF,Dc,by rfl,DO.fresh _⟩
theorem kj(a:Value)(h:Q₁ (.ref s.heap.objs.size) {s with heap:=s.heap.push (DS w)}):
  codeAny (model prog w) A (.call (.builtin "set.__new__") ⟨[.type "set",a],[]⟩) (wants Q₁ E) s:=by
 refine codeAny_of_tree ?_;show wpAny _ A.in1 (do checkBuiltinCall "set.__new__" ⟨[.type "set",a],[]⟩;again (.builtin "set.__new__" ⟨[.type "set",a],[]⟩)) _ _ s;refine xG (ACD (F.newCall_set_1 a) (xU ⟨AA4 F.plain_set_new _,AAK F.entry_set_new ?_⟩));rw[zy F.plain_set_new _];unfold Builtin.«set.__new__» Builtin.Frozenset.newClass;have j:=sub_set_self;obtain⟨n,g,d,tk,os⟩:=s;dsimp only
 wp_walk
 refine AB1 (xU ?_);dsimp only;simp only[newObj];refine xG (wpAny_alloc (xU ?_));exact xU h
theorem mU{R:Result->Shared->Prop}{I:Addr}{fp B:List Addr}{G:Array GenState->Array GenState->Prop}{n:Nat}{P:Nat->Value->Prop}{St:Nat->Shared->Prop}{led:Bool}
  (W:WalksS prog w A.in1 I fp B G n P St) (S:Addr) (J:S∉fp) (val:Nat->Int) (L:∀i v,P i v->∃t,v=.int (val i) t) (hb:n+1<scanBound):
  ∀(k i:Nat)(s:Shared)(ks:List Int),n - i=k->i<=n->St i s->HL led s.heap S ks->ks.length<=i->(∀x,x∈ks↔∃j,j<i/\val j=x)->
   (∀s' z,Moved (S::B) G s s'->HL led s'.heap S z->(∀x,x∈z↔∃j,j<n/\val j=x)->R (.ok (.ret .none)) s')->
   codeAny (model prog w) A (.builtin "set.update.loop" ⟨[.ref S,.ref I],[]⟩) R s:=by
 have M:S∉B:=λq=>J (W.sub _ q);have sub:∀b∈B,b∈S::B:=λb q=>xY _ q;intro k
 induction k with
 |zero=>
  intro i s ks hk hi st hS hl hm hR;have e:i=n:=by lia
  subst e;refine AAK F.entry_set_update_loop ?_;rw[zy AAo _];show wpAny _ A.in1 (pyNext (.ref I) >>=_) _ _ s;refine xG (W.done s _ _ st λs' N=>?_);show wpAny _ A.in1 (ret Value.none) _ _ s';exact xU (hR s' ks (N.mono sub) (hS.keep λo q=>N.heap S o M q) hm)
 |succ k ih=>
  intro i s ks hk hi st hS hl hm hR;have lt:i<n:=by lia
  refine AAK F.entry_set_update_loop ?_;rw[zy AAo _];show wpAny _ A.in1 (pyNext (.ref I) >>=_) _ _ s;refine xG (W.item i s _ _ lt st λv s' hP aa N=>?_);obtain⟨t,rfl⟩:=L i v hP;have ab:HL led s'.heap S ks:=hS.keep λo q=>N.heap S o M q;show wpAny _ A.in1 (holding [Value.int (val i) t] (setAdd S (.int (val i) t)) >>=_) _ _ s';refine xG (zQ ?_);unfold setAdd;refine zQ ?_;refine xG ((intKind prog w).pyHash (k:=val i) (ABp _ _ _ _) ?_);refine add_int (s:={s' with toks:=s'.toks+1}) ab Om λb h' z sb S2 ae ah=>?_;refine xU ⟨AA4 AAo _,ih (i+1) _ z Om lt (W.frame _ s' _ _ aa (z0 _) λb hb o e=>?_) S2 Om (λx=>?_) λaf O U ag Y=>?_⟩
  .rw[sb.2 b (λq:b=S=>J (by rw[<-q];exact hb))];exact e
  .rw[ae,hm];constructor
   .rintro(⟨j,hj,e⟩|e)
    .exact⟨j,Om,e⟩
    .exact⟨i,Om,e.symm⟩
   .rintro⟨j,hj,e⟩;by_cases q:j=i
    .subst q;exact .inr e.symm
    .exact .inl ⟨j,Om,e⟩
  .refine hR af O (Moved.trans W.gtrans ((N.mono sub).then_heap (z0 _) λb o hb e=>?_) U) ag Y;rw[sb.2 b (λq:b=S=>hb (by rw[q];exact xl))];exact e
theorem mV{ns:List Int}{n:Nat}(h:ns.length=n)(x:Int):x∈ns↔∃j,j<n/\ns.getD j 0=x:=by
 constructor
 .intro q;obtain⟨j,z,e⟩:=AAZ q;exact⟨j,Om,by rw[zu,xW z];exact e⟩
 .rintro⟨j,z,e⟩;rw[zu,xW Om]at e;rw[<-e];exact AAX _
set_option maxHeartbeats 3200000 in
theorem iw{l:Addr}{items:Array Value}{ns:List Int}{Q:Value->Shared->Prop}(hh:A.handled=none)(hl:s.heap.IsList l items)(hi:IntsAre items.toList ns)(hb:items.size+1<scanBound)
  (h:∀(h':Heap)(tk:Nat)(ks:List Int),HL (NO w) h' s.heap.objs.size ks->(∀x,x∈ks↔x∈ns)->
   (∀b o,b<s.heap.objs.size->s.heap.get? b=some o->h'.get? b=some o)->Q (.ref s.heap.objs.size) {s with heap:=h',toks:=tk}):
  wpAny (model prog w) A (call (.type "set") [.ref l]) Q E s:=by
 obtain⟨c,tl,ar⟩:=AAB.mro;have ag:=AAB.made;have as:=AAB.sub;refine wpAny_call (codeAny_of_tree ?_);show wpAny _ _ (callAny (.type "set") _) _ _ _;refine xU ⟨Code.quiet_builtin _ Dk,AAK F.entry_type_call ?_⟩;rw[Around.under_plain (weight_type_call_type "set" [.ref l] []) rfl];have h1:=AAB.notType;have h2:=AAB.canCreate;have ay:=F.typeCall_set_1 (.ref l)
 repeat (any_goals (first|assumption|wp_step))
 refine zl (kj (.ref l) (E:=E) (Q₁:=λobj s₁=>obj=.ref s.heap.objs.size/\s₁={s with heap:=s.heap.push (DS w)}) ⟨rfl,rfl⟩) λr s₁ hr=>?_;cases r with
 |error e=>exact hr
 |ok fl=>
  cases fl with
  |ret obj=>
   obtain⟨rfl,rfl⟩:=hr;have hZ:HL (NO w) (s.heap.push (DS w)) s.heap.objs.size []:=lF;have hT:Shared.TypeIs {s with heap:=s.heap.push (DS w)} (.ref s.heap.objs.size) "set":=⟨_,xf _ rfl,rfl⟩;have az:=AAB.init.lookup;have aA:=AAB.init.bind (.ref s.heap.objs.size)
   repeat (any_goals (first|assumption|wp_step))
   refine zl (codeAny_call_builtin (R:=wants (λr z=>r=.none/\∃h' tk ks,z={s with heap:=h',toks:=tk}/\HL (NO w) h' s.heap.objs.size ks/\(∀x,x∈ks↔x∈ns)/\
     (∀b o,b<s.heap.objs.size->s.heap.get? b=some o->h'.get? b=some o)) E) AAB.init.plain F.entry_set_init (check_set_init_1 hT ?_)) λL z j=>?_
   .obtain⟨ol,M,N,nl,O⟩:=hl;obtain⟨au,B,ah,n⟩:=ol;simp only at N O;subst N;subst O;have U:(s.heap.push (DS w)).get? l=some {cls:=.type "list",dict:=B,data:=.seq items nl,slots:=n}:=xN _ M;have av:=F.sub_list_set;have ax:=F.sub_list_frozenset;have aB:(Value.type "list"==Value.type "dict")=false:=by decide
    have Y:(s.heap.push (DS w)).IsList l items:=⟨_,U,rfl,nl,rfl⟩;unfold Builtin.«set.__init__» noKeywords Builtin.Frozenset.updateFrom;generalize ai:pyIter=PI
    wp_walk
    subst ai;refine AAp Y ?_;refine xG (wpAny_runValue ?_);have aa:l<s.heap.objs.size:=xj M;have aj:A.in1.in1.in1.handled=none:=by simp[hh]
    have ab:l≠(s.heap.push (DS w)).objs.size:=by rw[x9];exact x6 (yW aa)
    have ak:s.heap.objs.size∉[(s.heap.push (DS w)).objs.size,l]:=by rw[x9];simp only[xb,yD,yh,AB2,AAi];exact⟨x6 (z3 _),yY aa⟩
    have ae:∀(i:Nat)(v:Value),items[i]?=some v->∃t,v=.int ((λi=>ns.getD i 0) i) t:=λi v hv=>IntsAre.int_at hi i v (by rw[zC];exact hv);refine mU (led:=NO w) ((Walks.list aj _ l ab items).toS) s.heap.objs.size ak (λi=>ns.getD i 0) ae hb (items.size - 0) 0 _ [] Om (xi _)
     ⟨⟨_,xf _ rfl,rfl,rfl⟩,(Y.push _)⟩ (hZ.keep λo q=>xN _ q) (xi _) (λx=>by simp) ?hR
    case hR=>
     intro s' ks mv S' I;obtain⟨h',g',d',am,an⟩:=s';have eg:g'=s.gens:=mv.gens;have ed:d'=s.drawn:=mv.drawn;have eo:an=s.os:=mv.os;subst eg;subst ed;subst eo;show wpAny _ _ _ _ _ _;refine xU ?_;show wpAny _ _ (ret Value.none) _ _ _;have af:ns.length=items.size:=by have:=hi.length;rw[zM]at this;lia
     refine xU ⟨rfl,h',am,ks,rfl,S',λx=>(I x).trans (mV af x).symm,λb o hb e=>?_⟩;have ao:b≠s.heap.objs.size:=x6 hb;have ap:b≠(s.heap.push (DS w)).objs.size:=by rw[x9];exact x6 (yW hb)
     exact mv.heap b o (by simp only[xb,yD,yh,AB2,AAi];exact⟨ao,ap⟩) (xN _ (xN _ e))
   .cases L with
    |error e=>exact j
    |ok J=>
     cases J with
     |ret r=>
      obtain⟨rfl,h',tk,ks,rfl,S',I,aq⟩:=j
      repeat (any_goals (first|assumption|wp_step))
      exact h _ _ _ S' I aq
     |_=>exact j.elim
  |_=>exact hr.elim
end
end CE
namespace CE
open PySem PySem.Calls PyProof.Rows PyProof.V PySem.Spec PySem.W
theorem Bm:Slot "set_iterator" "__next__" "set_iterator.__next__":=
 .of (owner:="set_iterator") (n:="__next__") (by rw[typeLookup_type,builtinLookup_eq_fast];kernel_rfl) Dk Dk Dk
  (by first|exact .inl Dk|exact .inr Dk) (by rw[isSubtype_type];kernel_rfl)
theorem FQ:entryFor table "set_iterator.__next__"=some Builtin.«set_iterator.__next__»:=entryFor_of_tree (by kernel_rfl)
theorem UU:entryFor table "set.__iter__"=some Builtin.«frozenset.__iter__»:=
 entryFor_alias (id':="frozenset.__iter__") (by kernel_rfl) rfl Dk (by kernel_rfl)
theorem bC:Manifest.owners.lookup (String.ofList ['r','o','t','a','r','e','t','i','_','t','e','s'].reverse)=some Manifest.sig_set_iterator:=by kernel_rfl
theorem GO(a:Value):argsOk "set_iterator.__next__" ⟨[a],[]⟩:=by unfold argsOk;rw[signature?_of (id:="set_iterator.__next__") (n:=['_','_','t','x','e','n','_','_']) (o:=['r','o','t','a','r','e','t','i','_','t','e','s']) (by kernel_rfl) bC];kernel_rfl
theorem Og:∀{l:List j}{i:Nat}(h:i<l.length),(l[i]::l.eraseIdx i).Perm l
 |a::l,0,_=>AAT _
 |a::l,i+1,h=>by
  have hi:i<l.length:=by simpa using h
  have:=Og hi;show(l[i]::a::l.eraseIdx i).Perm (a::l);exact(List.Perm.swap a l[i] _).trans (List.Perm.cons a this)
theorem gT(next:Nat->Nat):∀(f k:Nat)(left:List n)(out:Array n),left.length=f->(pickOrder.go next f k left out).toList.Perm (out.toList++left)
 |0,k,left,out,h=>by have:left=[]:=yR.mp h;subst this;unfold pickOrder.go;simp
 |f+1,k,left,out,h=>by
  unfold pickOrder.go;have q:0<left.length:=by lia
  have j:next k % left.length<left.length:=ACG _ q
  rw[xW j];dsimp only;have z:=gT next f (k+1) (left.eraseIdx (next k % left.length)) (out.push left[next k % left.length]) (by rw[ABe j];lia)
  refine z.trans ?_;rw[Array.toList_push,yB];refine List.Perm.append_left _ ?_;exact(Og j)
theorem Xo(next:Nat->Nat)(xs:Array j):(pickOrder next xs).toList.Perm xs.toList:=by
 have:=gT next xs.size 0 xs.toList #[] (by simp)
 simpa[pickOrder]using this
section
variable{prog:Program}{w:World}{A:Around}{E:Value->Shared->Prop}{s:Shared}
theorem fk(q:0<n)(h:∀i,i<n->Q i {s with drawn:=s.drawn.bump j}):wpAny (model prog w) A (choose j n) Q E s:=
 λ_ _ _=>⟨yY q,h _ (ACG _ q)⟩
theorem dG:∀(n:Nat)(xs:List j)(s:Shared)(Q:List j->Shared->Prop),xs.length=n->(∀(ys:List j)(d:Drawn),ys.Perm xs->Q ys {s with drawn:=d})->wpAny (model prog w) A (drawOrder n xs) Q E s
 |0,xs,s,Q,h,q=>by have:xs=[]:=yR.mp h;subst this;unfold drawOrder;exact xU (q [] s.drawn (AAT _))
 |n+1,[],s,Q,h,q=>by simp at h
 |n+1,x::xs,s,Q,h,q=>by unfold drawOrder;refine xG (fk (by simp) λi hi=>?_);rw[xW hi];dsimp only;refine xG (dG n _ _ _ (by rw[ABe hi];simp at h⊢;lia) λys d p=>?_);refine xU (q _ d ?_);exact(List.Perm.cons _ p).trans (Og hi)
def DW(h:Heap)(j a:Addr)(first:Value)(i n ep:Nat):Prop:=∃o,h.get? j=some o/\o.cls=.type "set_iterator"/\o.data=.fields #[first,.int i 0,.ref a,.int n 0,.int ep 0]
theorem DW.typeIs(x:DW s.heap j a first i n ep):s.TypeIs (.ref j) "set_iterator":=let⟨o,q,z,_⟩:=x;⟨o,q,z⟩
structure EW(h:Heap)(a:Addr)(es:Array (Int×Value))(ep:Nat)(t:SetTable):Prop where
 at_:∃o,h.get? a=some o/\o.data=.set es ep t
 fits:t.fits es.size=true
theorem EW.state(x:EW s.heap a es ep t)(h:Q (es,ep,t) s):wpAny (model prog w) A (setState a) Q E s:=by obtain⟨⟨o,j,hd⟩,n⟩:=x;exact wpAny_setState_of j hd n h
theorem EW.entries(x:EW s.heap a es ep t)(h:Q es s):wpAny (model prog w) A (setEntries a) Q E s:=by unfold setEntries;exact xG (x.state (xU h))
noncomputable def RQ(w:World):Bool:=w.params.followText "set-order"
theorem P8(h:Q (RQ w) s):wpAny (model prog w) A setsByText Q E s:=by unfold setsByText;exact xG (AB1 (xU h))
def Q1(prog:Program)(w:World)(a:Addr)(slot i ep:Nat)(s:Shared)(r:Option (Value×Nat)):Prop:=
 ∀(A:Around)(E:Value->Shared->Prop)(Q:Option (Value×Nat)->Shared->Prop),Q r s->wpAny (model prog w) A (setNext a slot i ep) Q E s
theorem jU{B a:Addr}{slot i n ep z:Nat}{es:Array (Int×Value)}{t:SetTable}{x:Value}{Q:Option Value->Shared->Prop}(hi:DW s.heap B a (.int slot 0) i n ep)(M:EW s.heap a es ep t)(N:es.size=n)
  (O:Q1 prog w a slot i ep s (some (x,z)))
  (U:∀h',DW h' B a (.int z 0) (i+1) n ep->Heap.SameBut B s.heap h'->Q (some x) {s with heap:=h'}):wpAny (model prog w) A (pyNext (.ref B)) Q E s:=by
 obtain⟨o,J,Y,j⟩:=id hi;unfold pyNext;refine xG (AAF (ym (name:=Str.ofString "__next__") hi.typeIs Bm (yr Bm hi.typeIs FQ ?_ (GO _))));unfold Builtin.«set_iterator.__next__»;refine xG (xU ?_);refine xG (ABU J j ?_);show wpAny _ _ (setEntries a >>=_) _ _ s;refine xG (M.entries ?_);rw[xJ (by rw[N];simp)];show wpAny _ _ (setNext a (slot:Int).toNat (i:Int).toNat (ep:Int).toNat >>=_) _ _ s;refine xG (O _ _ _ ?_);dsimp only;refine xG (zj J j (by simp) ?_);have I:=yj (Obj.mapFields (·.setIfInBounds 0 (rawInt (z:Int)))) J (zt (yq j _));have q:(Obj.mapFields (·.setIfInBounds 0 (rawInt (z:Int))) o).data=.fields #[.int z 0,.int i 0,.ref a,.int n 0,.int ep 0]:=by rw[yq j];simp[rawInt]
 refine xG (zj (s:={s with heap:=s.heap.update B (Obj.mapFields (·.setIfInBounds 0 (rawInt (z:Int))))}) I q (by simp) ?_);have L:=yj (Obj.mapFields (·.setIfInBounds 1 (rawInt ((i:Int)+1)))) I (zt (yq q _));refine xU ⟨_,rfl,xU (U _ ⟨_,L,?_,?_⟩ ?_)⟩
 .rw[AAu,AAu];exact Y
 .rw[yq q];simp[rawInt]
 .exact(yi ..).trans (yi ..)
theorem ia{q a:Addr}{slot i n ep:Nat}{es:Array (Int×Value)}{t:SetTable}{Q:Option Value->Shared->Prop}(B:A.handled=none)(hi:DW s.heap q a (.int slot 0) i n ep)(I:EW s.heap a es ep t)(J:es.size=n)
  (L:Q1 prog w a slot i ep s none) (M:∀h',Heap.ExtBut q s.heap h'->Q none {s with heap:=h'}):wpAny (model prog w) A (pyNext (.ref q)) Q E s:=by
 obtain⟨o,z,N,j⟩:=id hi;unfold pyNext;refine xG (AAF (ym (name:=Str.ofString "__next__") hi.typeIs Bm (yr Bm hi.typeIs FQ ?_ (GO _))));unfold Builtin.«set_iterator.__next__»;refine xG (xU ?_);refine xG (ABU z j ?_);show wpAny _ _ (setEntries a >>=_) _ _ s;refine xG (I.entries ?_);rw[xJ (by rw[J];simp)];show wpAny _ _ (setNext a (slot:Int).toNat (i:Int).toNat (ep:Int).toNat >>=_) _ _ s;refine xG (L _ _ _ ?_);dsimp only;refine xG (zj z j (by simp) ?_);refine xG ?_;simp only[newExc,newTuple];refine xG (yw ?_ (by size_fits));refine xG (m:=firstArgMember _ _) (ACD (a:=Value.none) (by first|rfl|(simp only[firstArgMember];rfl)) ?_);refine yw ?_ (by size_fits);simp only[raiseNew];refine xG (wpAny_handled ?_);rw[show A.in1.handled=none from B];refine xG (xU (wpAny_throw ?_));refine xG (AA7 (T:="StopIteration") (b:=true) ⟨_,xf _ rfl,rfl⟩ isSubtype_stop ?_);exact xU (M _ (((yi ..).extBut.push _).push _))
theorem YL(z:EW s.heap a es ep t)(B:RQ w=false)(hd:(!t.plain && decide (es.size > 1))=false)(I:t.led=true):
  Q1 prog w a slot i ep s (match es[SetTable.below t.place slot]?,t.place[SetTable.below t.place slot]? with
   |some (_,x),some j=>some (x,j+1)
   |_,_=>none):=by
 intro A E Q q;unfold setNext;refine xG (z.state ?_);dsimp only;refine xG (P8 ?_);rw[B];refine zL (λn=>absurd n Dc) (λ_=>?_);refine zL (λn=>absurd n (by show¬((!t.plain && decide (es.size > 1))=true);rw[hd];decide)) (λ_=>?_);refine xG ?_;show wpAny _ _ (if(!t.led && !es.isEmpty)=true then _ else _) _ _ s;rw[I];exact xU (xU q)
theorem Zk(n:EW s.heap a es ep t)(z:RQ w=true):
  Q1 prog w a slot i ep s (((pickOrder (w.params.setOrder a ep) es)[i]?).map λe=>(e.2,slot)):=by
 intro A E Q q;unfold setNext;refine xG (n.state ?_);dsimp only;refine xG (P8 ?_);rw[z];refine zL (λ_=>?_) (λj=>absurd rfl j);rw[xJ (by simp)];refine xG ?_;unfold setWalk;refine xG (n.state ?_);dsimp only;refine xG (P8 ?_);rw[z];refine zL (λ_=>?_) (λj=>absurd rfl j);refine xG (AB1 ?_);exact xU (xU q)
theorem eZ{q a T:Addr}{i n ep p:Nat}{es:Array (Int×Value)}{t:SetTable}{ps:Array Value}{e:Int×Value}{tk:Tok}{Q:Option Value->Shared->Prop}(hi:DW s.heap q a (.ref T) i n ep)(N:EW s.heap a es ep t)(O:es.size=n)
  (U:IsTup s.heap T ps) (Y:ps[i]?=some (.int p tk)) (hx:es[p]?=some e)
  (hQ:∀h',DW h' q a (.ref T) (i+1) n ep->Heap.SameBut q s.heap h'->Q (some e.2) {s with heap:=h'}):wpAny (model prog w) A (pyNext (.ref q)) Q E s:=by
 obtain⟨o,z,hc,j⟩:=id hi;unfold pyNext;refine xG (AAF (ym (name:=Str.ofString "__next__") hi.typeIs Bm (yr Bm hi.typeIs FQ ?_ (GO _))));unfold Builtin.«set_iterator.__next__»;refine xG (xU ?_);refine xG (ABU z j ?_);show wpAny _ _ (setEntries a >>=_) _ _ s;refine xG (N.entries ?_);rw[xJ (by rw[O];simp)];obtain⟨oT,B,aa,m,I⟩:=id U;show wpAny _ _ (seqItems? (.ref T) >>=_) _ _ s;refine xG (zG B I ?_);dsimp only;have J:ps[(i:Int).toNat]?=some (.int p tk):=Y;rw[J];dsimp only;refine xG ?_;unfold setNextDrawn;refine xG (N.state ?_);dsimp only;rw[xJ (by simp)];have L:es[(p:Int).toNat]?=some e:=hx;rw[L];refine xU ?_;refine xG (zj z j (by simp) ?_);have M:=yj (Obj.mapFields (·.setIfInBounds 1 (rawInt ((i:Int)+1)))) z (zt (yq j _));refine xU ⟨_,rfl,xU (hQ _ ⟨_,M,?_,?_⟩ (yi ..))⟩
 .rw[AAu];exact hc
 .rw[yq j];simp[rawInt]
theorem jH(N:A.handled=none)(hi:DW s.heap q a (.ref T) i n ep)(O:EW s.heap a es ep t)(U:es.size=n)
  (Y:IsTup s.heap T ps) (hp:ps[i]?=none) (hQ:∀h',Heap.ExtBut q s.heap h'->Q none {s with heap:=h'}):wpAny (model prog w) A (pyNext (.ref q)) Q E s:=by
 obtain⟨o,z,hc,j⟩:=id hi;unfold pyNext;refine xG (AAF (ym (name:=Str.ofString "__next__") hi.typeIs Bm (yr Bm hi.typeIs FQ ?_ (GO _))));unfold Builtin.«set_iterator.__next__»;refine xG (xU ?_);refine xG (ABU z j ?_);show wpAny _ _ (setEntries a >>=_) _ _ s;refine xG (O.entries ?_);rw[xJ (by rw[U];simp)];obtain⟨oT,B,aa,m,I⟩:=id Y;show wpAny _ _ (seqItems? (.ref T) >>=_) _ _ s;refine xG (zG B I ?_);dsimp only;have J:ps[(i:Int).toNat]?=none:=hp;rw[J];dsimp only;refine xG (zj z j (by simp) ?_);have L:=yj (Obj.mapFields (·.setIfInBounds 0 (rawInt (0:Int)))) z (zt (yq j _));have M:(Obj.mapFields (·.setIfInBounds 0 (rawInt (0:Int))) o).data=.fields #[.int 0 0,.int i 0,.ref a,.int n 0,.int ep 0]:=by rw[yq j];simp[rawInt]
 refine xG (zj (s:={s with heap:=s.heap.update q (Obj.mapFields (·.setIfInBounds 0 (rawInt (0:Int))))}) L M (by simp) ?_);refine xG ?_;simp only[newExc,newTuple];refine xG (yw ?_ (by size_fits));refine xG (m:=firstArgMember _ _) (ACD (a:=Value.none) (by first|rfl|(simp only[firstArgMember];rfl)) ?_);refine yw ?_ (by size_fits);simp only[raiseNew];refine xG (wpAny_handled ?_);rw[show A.in1.handled=none from N];refine xG (xU (wpAny_throw ?_));refine xG (AA7 (T:="StopIteration") (b:=true) ⟨_,xf _ rfl,rfl⟩ isSubtype_stop ?_);exact xU (hQ _ ((((yi ..).trans (yi ..)).extBut.push _).push _))
end
theorem O7:Slot "set_iterator" "__iter__" "set_iterator.__iter__":=
 .of (owner:="set_iterator") (n:="__iter__") (by rw[typeLookup_type,builtinLookup_eq_fast];kernel_rfl) Dk Dk Dk
  (by first|exact .inl Dk|exact .inr Dk) (by rw[isSubtype_type];kernel_rfl)
theorem Vm:entryFor table "set_iterator.__iter__"=some Builtin.«dict_keyiterator.__iter__»:=
 entryFor_alias (id':="dict_keyiterator.__iter__") (by kernel_rfl) (by first|rfl|decide+kernel|(unfold String.splitOn;simp+decide [String.splitOnAux])) Dk (by kernel_rfl)
theorem Yd(a:Value):argsOk "set_iterator.__iter__" ⟨[a],[]⟩:=by unfold argsOk;rw[signature?_of (id:="set_iterator.__iter__") (n:=['_','_','r','e','t','i','_','_']) (o:=['r','o','t','a','r','e','t','i','_','t','e','s']) (by kernel_rfl) bC];kernel_rfl
theorem DW.at_(x:DW h j a first i n ep)(k:∀o,h.get? j=some o->h'.get? j=some o):DW h' j a first i n ep:=let⟨o,q,r⟩:=x;⟨o,k o q,r⟩
theorem EW.keep(x:EW h a es ep t)(k:∀o,h.get? a=some o->h'.get? a=some o):EW h' a es ep t:=let⟨⟨o,j,r⟩,f⟩:=x;⟨⟨o,k o j,r⟩,f⟩
section
variable{prog:Program}{w:World}{A:Around}{E:Value->Shared->Prop}{s:Shared}
theorem iF(x:DW s.heap j a first i n ep)(h:Q (.ref j) s):wpAny (model prog w) A (pyIter (.ref j)) Q E s:=by refine wpAny_pyIter_slot x.typeIs O7 (yr O7 x.typeIs Vm ?_ (Yd _));show wpAny _ _ (ret (.ref j)) _ _ s;exact xU ⟨_,rfl,"set_iterator",_,x.typeIs,Bm.lookup,h⟩
theorem Xm(hh:A.handled=none)(its:List (Int×Value))(J:Nat->Nat)(L:I≠a)(N:es.size=n)(O:its.length=n)
  (U:∀(s:Shared)(i:Nat),i<=n->EW s.heap a es ep t->Q1 prog w a (J i) i ep s ((its[i]?).map λe=>(e.2,J (i+1)))):
  Walks prog w A I [I,a] [I] n (λi v=>(its[i]?).map (·.2)=some v) (λi h=>DW h I a (.int (J i) 0) i n ep/\EW h a es ep t) where
 sub:=λb q=>by simp at q⊢;exact .inl q
 frame:=λi h h' st k=>⟨st.1.at_ λo e=>k I (by simp) o e,st.2.keep λo e=>k a (by simp) o e⟩
 item:=λi s Q E hi st z=>by
  have B:i<its.length:=by lia
  have j:=U s i Om st.2;rw[xW B]at j;refine jU st.1 st.2 N j λh' M Y=>?_;refine z _ h' s.toks (by rw[xW B];rfl) ⟨M,st.2.keep λo e=>(Y.2 a (x8 L)).trans e⟩ λb o q e=>(Y.2 b (by simpa using q)).trans e
 done:=λs Q E st z=>by have j:=U s n (xZ _) st.2;rw[yc Om]at j;exact ia hh st.1 st.2 N j λh' eb=>z h' s.toks λb o q e=>eb b o (by simpa using q) e
 self:=λi s Q E st z=>iF st.1 z
theorem dC(hh:A.handled=none)(pl:List Nat)(N:I≠a)(O:I≠T)(M:es.size=n)(U:pl.Perm (List.range n)):
  Walks prog w A I [I,T,a] [I] n (λi v=>((pl.filterMap (es[·]?))[i]?).map (·.2)=some v) (λi h=>DW h I a (.ref T) i n ep/\IsTup h T (pl.map λ(p:Nat)=>rawInt p).toArray/\EW h a es ep t) where
 sub:=λb z=>by simp at z⊢;exact .inl z
 frame:=λi h h' st k=>⟨st.1.at_ λo e=>k I (by simp) o e,let⟨o,Y,r⟩:=st.2.1;⟨o,k T (by simp) o Y,r⟩,st.2.2.keep λo e=>k a (by simp) o e⟩
 item:=λi s Q E hi st B=>by
  have hl:pl.length=n:=by rw[U.length_eq,yl]
  have j:i<pl.length:=by lia
  have J:∀p∈pl,p<n:=λp q=>yZ.mp (U.mem_iff.mp q);have L:pl[i]<es.size:=by rw[M];exact J _ (AAX j)
  have aa:∀(l:List Nat),(∀p∈l,p<n)->(l.filterMap (es[·]?))=l.map λp=>es.getD p (0,.none):=by
   intro l
   induction l with
   |nil=>intro _;rfl
   |cons x l ih=>
    intro h;have hx:x<es.size:=by rw[M];exact h x (by simp)
    rw[zf,ye hx,yE];dsimp only;rw[ih λp q=>h p (by simp[q])];simp[Array.getD,hx]
  refine eZ (p:=pl[i]) (e:=es[pl[i]]) (tk:=0) st.1 st.2.2 M st.2.1 ?_ (ye L) λh' ab sb=>?_
  .simp[j,rawInt]
  .refine B _ h' s.toks ?_ ⟨ab,?_,st.2.2.keep λo e=>(sb.2 a (x8 N)).trans e⟩ λb o z e=>(sb.2 b (by simpa using z)).trans e
   .rw[aa pl J];simp[j,Array.getD,L]
   .obtain⟨o,Y,r⟩:=st.2.1;exact⟨o,(sb.2 T (x8 O)).trans Y,r⟩
 done:=λs Q E st B=>by
  have hl:pl.length=n:=by rw[U.length_eq,yl]
  refine jH hh st.1 st.2.2 M st.2.1 (by simp;lia) λh' eb=>B h' s.toks λb o z e=>eb b o (by simpa using z) e
 self:=λi s Q E st B=>iF st.1 B
theorem mW(hh:A.handled=none)(hT:s.TypeIs (.ref a) "set")(L:EW s.heap a es ep t)(hu:DO (NO w) t)(hsz:es.size<=sizeLine)
  (hQ:∀(I:Addr)(fp:List Addr)(St:Nat->Heap->Prop)(its:List (Int×Value))(h':Heap)(d:Drawn),its.Perm es.toList->s.heap.objs.size<=I->(∀b∈fp,s.heap.objs.size<=b\/b=a)->
   Walks prog w A I fp [I] es.size (λi v=>(its[i]?).map (·.2)=some v) St->St 0 h'->(∀b o,s.heap.get? b=some o->h'.get? b=some o)->Q (.ref I) {s with heap:=h',drawn:=d}):
  wpAny (model prog w) A (pyIter (.ref a)) Q E s:=by
 have M:a<s.heap.objs.size:=by obtain⟨⟨o,ho,_⟩,_⟩:=L;exact xj ho
 refine wpAny_pyIter_slot hT PySem.F.slot_set_iter (yr PySem.F.slot_set_iter hT UU ?_ (PySem.F.args_set_iter_1 _));unfold Builtin.«frozenset.__iter__»;refine xG (xU ?_);refine xG ?_;unfold Builtin.Frozenset.sizeOf;refine xG (L.entries (xU ?_));refine xG ?_;unfold setDrawn;refine xG (L.state ?_);dsimp only;refine xG (P8 (xU ?_));have z:∀{s':Shared}{A':Around}{E':Value->Shared->Prop}{Q':Nat->Shared->Prop},EW s'.heap a es ep t->Q' ep s'->wpAny (model prog w) A' (setEpoch a) Q' E' s':=by intro s' A' E' Q' x q;unfold setEpoch;exact xG (x.state (xU q))
 have ae:t.place.size=es.size:=by have:=L.fits;simp only[SetTable.fits,x4,zv]at this;exact this.1
 by_cases J:(!RQ w && (!t.plain && decide (es.size > 1)))=true
 .refine zL (λ_=>?_) (λN=>absurd J N);refine xG (dG _ _ _ _ (by simp) λpl d hp=>?_);refine xG (wpAny_newTuple ?_ (by rw[xH,hp.length_eq,yl];exact hsz));refine xG (z (L.keep λo e=>xN _ e) ?_);refine xG ?_;unfold newFields;refine yw ?_ (by size_fits);refine xU ⟨_,rfl,"set_iterator",_,⟨_,xf _ rfl,rfl⟩,Bm.lookup,?_⟩;have n:(s.heap.push {cls:=.type "tuple",data:=.seq (pl.map λ(p:Nat)=>rawInt p).toArray}).objs.size=s.heap.objs.size+1:=x9 ..;refine hQ _ [(s.heap.push {cls:=.type "tuple",data:=.seq (pl.map λ(p:Nat)=>rawInt p).toArray}).objs.size,s.heap.objs.size,a] _ (pl.filterMap (es[·]?)) _ d ?_ (by rw[n];lia) (λb B=>?_)
   (dC (ep:=ep) (t:=t) hh pl (by rw[n];exact yY (yW M)) (by rw[n];exact yY (z3 _)) rfl hp) ⟨⟨_,xf _ rfl,rfl,rfl⟩,⟨_,xN _ (xf _ rfl),rfl,_,rfl⟩,L.keep λo e=>xN _ (xN _ e)⟩
   (λb o e=>xN _ (xN _ e))
  .exact(hp.filterMap _).trans (by rw[filterMap_getElem?_range])
  .rw[n]at B;simp at B;rcases B with q|q|q
   .left;rw[q];exact z0 _
   .left;rw[q];exact xZ _
   .right;exact q
 .refine zL (λN=>absurd N J) (λ_=>?_);refine xG (xU ?_);refine xG (z L ?_);refine xG ?_;unfold newFields;refine yw ?_ (by size_fits);refine xU ⟨_,rfl,"set_iterator",_,⟨_,xf _ rfl,rfl⟩,Bm.lookup,?_⟩;have O:EW (s.heap.push {cls:=.type "set_iterator",data:=.fields #[rawInt 0,rawInt 0,.ref a,rawInt es.size,rawInt ep]}) a es ep t:=L.keep λo e=>xN _ e;have U:∀b∈[s.heap.objs.size,a],s.heap.objs.size<=b\/b=a:=by
   intro b B;simp at B;rcases B with q|q
   .left;rw[q];exact xZ _
   .right;exact q
  cases B:RQ w with
  |true=>
   refine hQ _ [s.heap.objs.size,a] _ (pickOrder (w.params.setOrder a ep) es).toList _ s.drawn (Xo _ _) (xZ _) U
    (Xm (ep:=ep) (t:=t) hh _ (λ_=>0) (yY M) rfl ((Xo _ _).length_eq.trans (by simp)) λs' i _ x=>?_) ⟨⟨_,xf _ rfl,rfl,rfl⟩,O⟩ λb o e=>xN _ e
   have:=Zk (prog:=prog) (slot:=0) (i:=i) x B;rw[<-zC]at this;exact this
  |false=>
   have hd:(!t.plain && decide (es.size > 1))=false:=by rw[B]at J;simpa using J
   have hl:t.led=true:=by rw[hu.led];show(!RQ w)=true;rw[B];rfl
   let Y:Nat->Nat:=λi=>match i with
    |0=>0
    |j+1=>t.place.getD j 0+1
   have aa:∀i,i<=es.size->SetTable.below t.place (Y i)=i:=by
    intro i hi;cases i with
    |zero=>exact fR hu.up
    |succ j=>
     have hj:j<t.place.size:=by lia
     have e:t.place[j]?=some (t.place.getD j 0):=by simp[Array.getD,hj]
     exact dN hu.up e
   refine hQ _ [s.heap.objs.size,a] _ es.toList _ s.drawn (AAT _) (xZ _) U
    (Xm (ep:=ep) (t:=t) hh _ Y (yY M) rfl (by simp) λs' i hi x=>?_) ⟨⟨_,xf _ rfl,rfl,rfl⟩,O⟩ λb o e=>xN _ e
   have:=YL (prog:=prog) (slot:=Y i) (i:=i) x B hd hl;rw[aa i hi]at this;rw[zC];by_cases ab:i<es.size
   .have hj:i<t.place.size:=by lia
    rw[ye ab,ye hj]at this;rw[ye ab];have e:Y (i+1)=t.place[i]+1:=by show t.place.getD i 0+1=_;simp[Array.getD,hj]
    show Q1 _ _ _ _ _ _ _ (some (es[i].2,Y (i+1)));rw[e];exact this
   .rw[AA0 Om]at this⊢;exact this
theorem kb(n:s.TypeIs (.ref r) "set")(h:Q false s):wpAny (model prog w) A (Builtin.List.listLengthHint (.ref r)) Q E s:=by
 unfold Builtin.List.listLengthHint;refine xG (wpAny_specialOf n PySem.F.slot_set_len.lookup ?_);generalize Bl:("set.__len__":String)=q
 wp_delta
 rw[show splitId q=some ("set","__len__")from by subst Bl;decide+kernel];subst Bl;refine xG (AA7 (T:="set") (b:=true) n (by rw[isSubtype_type];kernel_rfl) ?_);refine zL (λj=>absurd j Dc) (λ_=>?_);refine zL (λ_=>?_) (λj=>absurd Dk j);refine xG (wpAny_typeOf n ?_);exact xU h
theorem HL.is(x:HL led h a ks):∃es ep t,EW h a es ep t/\DO led t/\Ol es.toList/\es.toList.map RL=ks/\es.size<scanBound:=by obtain⟨o,es,ep,t,j,I,hd,hz,n,J,q,z,B⟩:=x;exact⟨es,ep,t,⟨⟨o,j,hd⟩,z⟩,B,hz,n,q⟩
theorem HL.typeIs(x:HL led s.heap a ks):s.TypeIs (.ref a) "set":=by obtain⟨o,es,ep,t,j,n,r⟩:=x;exact⟨o,j,n.1⟩
theorem ints_of_all:∀{l:List (Int×Value)},Ol l->IntsAre (l.map (·.2)) (l.map RL)
 |[],_=>.nil
 |e::l,h=>by obtain⟨k,t,rfl⟩:=h e (by simp);exact .cons k t (ints_of_all λx j=>h x (by simp[j]))
theorem c6{a:Addr}{ks:List Int}{R:List Value->Shared->Prop}(hh:A.handled=none)(hZ:HL (NO w) s.heap a ks)
  (h:∀(h':Heap)(tk:Nat)(d:Drawn)(vs:List Value)(ms:List Int),(∀b o,s.heap.get? b=some o->h'.get? b=some o)->s.heap.objs.size<=h'.objs.size->IntsAre vs ms->ms.Perm ks->R vs {s with heap:=h',toks:=tk,drawn:=d}):
  wpAny (model prog w) A (collect (.ref a)) R E s:=by
 obtain⟨es,ep,t,hs,hu,hz,hk,hb⟩:=hZ.is;have af:a<s.heap.objs.size:=by obtain⟨⟨o,ho,_⟩,_⟩:=hs;exact xj ho
 have hsz:es.size<=sizeLine:=ABk hb;unfold collect;refine xG (wpAny_runValue (AAK entry_proto_collect' ?_));rw[zy PySem.F.plain_proto_collect _];show wpAny _ A.in1 (newList [] >>=λl=>again (.builtin "list.__iadd__" ⟨[l,.ref a],[]⟩)) _ _ s;refine xG (yw ?_);refine xU ⟨AA4 AB6 _,AAK entry_list_iadd' ?_⟩;rw[zy AB6 _];have J:(s.heap.push {cls:=.type "list",data:=.seq ([]:List Value).toArray}).get? s.heap.objs.size=some {cls:=.type "list",data:=.seq #[]}:=xf _ rfl;have j:∀b o,s.heap.get? b=some o->(s.heap.push {cls:=.type "list",data:=.seq ([]:List Value).toArray}).get? b=some o:=λb o e=>xN _ e;have n:Shared.TypeIs {s with heap:=s.heap.push {cls:=.type "list",data:=.seq ([]:List Value).toArray}} (.ref a) "set":=HL.typeIs (s:={s with heap:=s.heap.push {cls:=.type "list",data:=.seq ([]:List Value).toArray}}) (hZ.keep λo e=>j a o e);have aa:(s.heap.push {cls:=.type "list",data:=.seq ([]:List Value).toArray}).objs.size=s.heap.objs.size+1:=x9 ..;show wpAny _ A.in1 (Builtin.List.listExtendWith (.ref s.heap.objs.size) (.ref a) (.ref s.heap.objs.size)) _ _ _;unfold Builtin.List.listExtendWith;refine xG (wpAny_typeOf (T:="set") n ?_);have h1:Builtin.List.listSameRef (.ref s.heap.objs.size) (.ref a)=false:=by simp only[Builtin.List.listSameRef];exact yF.mpr (yY af)
 have h2:(Value.type "set"==Value.type "list")=false:=by decide
 have h3:(Value.type "set"==Value.type "tuple")=false:=by decide
 simp only[h1,h2,h3,Bool.or_false,ABW,ABu];refine xG (mW (A:=A.in1) hh n (hs.keep λo e=>j a o e) hu hsz λI fp St its h' d hp hI ai W st L=>?_);have ab:Shared.TypeIs {s with heap:=h',drawn:=d} (.ref a) "set":=by obtain⟨o,ho,hc⟩:=n;exact⟨o,L a o ho,hc⟩
 refine xG (zQ (kb ab ?_));have ag:s.heap.objs.size∉fp:=by
  intro q;rcases ai _ q with z|z
  .rw[aa]at z;exact absurd z (Nat.not_succ_le_self _)
  .exact absurd z (yY af)
 have fin:∀(M:Heap)(c:Nat)(tk:Nat),St 0 M->(∀b o,s.heap.get? b=some o->M.get? b=some o)->M.get? s.heap.objs.size=some {cls:=.type "list",data:=.seq #[] c}->
   codeAny (model prog w) A (.builtin "list.extend.loop" ⟨[.ref s.heap.objs.size,.ref I,.ref s.heap.objs.size],[]⟩) (λr s'=>∃(g:Heap)(tk:Nat)(acc:Array Value)(c:Nat),r=.ok (.ret (.ref s.heap.objs.size))/\s'={s with heap:=g,toks:=tk,drawn:=d}/\
    (∀b o,s.heap.get? b=some o->g.get? b=some o)/\g.get? s.heap.objs.size=some {cls:=.type "list",dict:=none,data:=.seq acc c,slots:= #[]}/\ItemsOf (λi v=>(its[i]?).map (·.2)=some v) acc es.size) {s with heap:=M,toks:=tk,drawn:=d}:=by
  intro M c tk aj kk hS;refine codeAny_extend_loopS W.toS hsz s.heap.objs.size ag (.ref s.heap.objs.size) es.size 0 _ #[] c rfl (xi _) aj hS (ItemsOf.nil _) λs' acc c' mv Y ha=>?_;rw[Moved.eq_with mv];refine⟨_,_,acc,c',rfl,rfl,λb o e=>?_,Y,ha⟩;refine mv.heap b o (λq=>?_) (kk b o e);have B:=xj e;rcases xb.mp q with z|z
  .rw[z]at B;exact absurd B (y8 _)
  .rw[yD.mp z]at B;rw[aa]at hI;exact absurd B (Nat.not_lt.mpr (xr (z0 _) hI))
 have last:∀(r:Result)(s':Shared),(∃(g:Heap)(tk:Nat)(acc:Array Value)(c:Nat),r=.ok (.ret (.ref s.heap.objs.size))/\s'={s with heap:=g,toks:=tk,drawn:=d}/\
    (∀b o,s.heap.get? b=some o->g.get? b=some o)/\g.get? s.heap.objs.size=some {cls:=.type "list",dict:=none,data:=.seq acc c,slots:= #[]}/\ItemsOf (λi v=>(its[i]?).map (·.2)=some v) acc es.size)->
   r=.ok (.ret (.ref s.heap.objs.size))/\wpAny (model prog w) A (load s.heap.objs.size >>=λo=>match o.data with| .seq xs _=>pure xs.toList|_=>unsupported "internal:collect") R E s':=by
  rintro r s' ⟨g,tk,acc,c,rfl,rfl,kk,Y,ha⟩;refine⟨rfl,xG (wpAny_load Y ?_)⟩;have hl:its.length=es.size:=by rw[hp.length_eq,zM]
  have ah:acc.toList=its.map (·.2):=by
   apply List.ext_getElem?;intro i;by_cases hi:i<acc.size
   .have:=ha.2 i acc[i] (ye hi);rw[zC,ye hi,xh];exact this.symm
   .rw[zC,AA0 Om,yc (by rw[xH];have:=ha.1;lia)]
  refine xU (h g tk d acc.toList (its.map RL) kk (AAP (xj Y)) ?_ ?_)
  .rw[ah];exact ints_of_all (hz.perm hp)
  .rw[<-hk];exact hp.map _
 refine zL (λ_=>?_) (λ_=>?_)
 .refine xG (AAm ?_);refine xG ?_;have N:h'.get? s.heap.objs.size=some {cls:=.type "list",data:=.seq #[]}:=L _ _ J;show wpAny _ _ (updateSeq s.heap.objs.size (·.push .none) >>=λ_=>updateSeq s.heap.objs.size (·.pop)) _ _ _;refine xG (wpAny_updateSeq N rfl ?_);have O:=yj (Obj.mapSeq (·.push Value.none)) N rfl;refine wpAny_updateSeq (hz:=by seq_fits) O rfl ?_;have ae:=yj (Obj.mapSeq (·.pop)) O rfl;refine xU ⟨AA4 ABq _,zl (fin _ _ _ ?_ ?_ ae) λr s' q=>?_⟩
  .refine W.frame 0 _ _ st λb B o e=>?_;have U:b≠s.heap.objs.size:=λz=>ag (z▸B);exact(zO _ _ (x8 U)).trans ((zO _ _ (x8 U)).trans e)
  .intro b o e;have U:b≠s.heap.objs.size:=x6 (xj e);exact(zO _ _ (x8 U)).trans ((zO _ _ (x8 U)).trans (L b o (j b o e)))
  .obtain⟨rfl,q2⟩:=last r s' q;exact q2
 .refine xU ⟨AA4 ABq _,zl (fin _ _ _ st (λb o e=>L b o (j b o e)) (L _ _ J)) λr s' q=>?_⟩;obtain⟨rfl,q2⟩:=last r s' q;exact q2
theorem Zu(L:A.handled=none)(M:HL (NO w) s.heap a ks)(n:ks.length<64)
  (h:∀(h':Heap)(tk:Nat)(d:Drawn)(D:Addr)(out:Array Value)(ns:List Int)(c:Nat),(∀b o,s.heap.get? b=some o->h'.get? b=some o)->s.heap.objs.size<=D->h'.get? D=some (seqObj "list" out c)->
   IntsAre out.toList ns->ns.Perm ks->ns.Pairwise (· <= ·)->Q (.ref D) {s with heap:=h',toks:=tk,drawn:=d}):
  wpAny (model prog w) A (call (.builtin "sorted") [.ref a]) Q E s:=by
 refine call_function_entry kind_sorted plain_sorted entry_sorted (args_sorted1 _) ?_;unfold Builtin.«sorted»;refine xG (m:=checkCount "sorted" 1 1 _) (xU ?_);refine xG (c6 (A:=A.in1) L M λh' tk d vs ms B q hi I=>?_);have N:vs.length<64:=by rw[hi.length,I.length_eq];exact n
 refine xG (wpAny_newList ?_ (by rw[AAL];lia));have j:(h'.push (seqObj "list" vs.toArray 0)).get? h'.objs.size=some (seqObj "list" vs.toArray 0):=xf _ rfl;refine xG (zQ (yr slot_list_sort ⟨_,j,rfl⟩ entry_list_sort (list_sort_tree j hi N λout ns O U Y=>⟨_,rfl,?_⟩) (args_list_sort _)));obtain⟨e',z⟩:=PyProof.Rows.sortedHeap_at (vs:=vs) (out:=out) j;refine xU ⟨_,rfl,h _ _ d h'.objs.size out ns e' (λb o e=>?_) q z O (U.trans I) Y⟩;have J:=xj (B b o e);rw[PyProof.Rows.sortedHeap_old (x6 J) (by rw[x9];exact yW J)];exact xN _ (B b o e)
end
end CE
namespace CE
open PySem PyProof.Rows
section
variable{prog:Program}{w:World}{A:Around}{E:Value->Shared->Prop}{s:Shared}
theorem OI(hit:IsTupIter s.heap j t i)(B:IsTup s.heap t items)(I:items[i]?=some x)
  (J:∀h',IsTupIter h' j t (i+1)->Heap.SameBut j s.heap h'->Q x {s with heap:=h'}):wpAny (model prog w) A (Builtin.SmallTypes.nextOf (.ref j)) Q E s:=by
 obtain⟨o,n,L,hd⟩:=id hit;obtain⟨ol,q,_,nl,z⟩:=B;unfold Builtin.SmallTypes.nextOf;refine xG (ym (name:=Str.ofString "__next__") hit.typeIs AAa (yr AAa hit.typeIs entry_tupleiter_next ?_ (args_tupleiter_next _)));show wpAny _ _ (field (.ref j) 0 >>=_) _ _ s;refine xG (zP n hd (x:=.ref t) rfl ?_);show wpAny _ _ (if(Value.ref t==Value.none)=true then _ else _) _ _ s;rw[xJ (show¬((Value.ref t==Value.none)=true)from xy)];show wpAny _ _ (field (.ref j) 1 >>=_) _ _ s;refine xG (zP n hd (x:=.int i 0) rfl ?_);show wpAny _ _ (seqItems? (.ref t) >>=_) _ _ s;refine xG (zG q z ?_);simp only[yG,I];refine xG (zj n hd (by simp) (xU ⟨x,rfl,xU (J _ ?_ (yi ..))⟩));exact⟨_,yj _ n (zt (yq hd _)),(AAu ..).trans L,by rw[yq hd];simp[rawInt]⟩
theorem HC(B:A.handled=none)(hit:IsTupIter s.heap j t i)(I:IsTup s.heap t items)(J:items[i]?=none)
  (L:∀h' e,Heap.ExtBut j s.heap h'->(∃o,h'.get? e=some o/\o.cls=.type "StopIteration")->E (.ref e) {s with heap:=h'}):wpAny (model prog w) A (Builtin.SmallTypes.nextOf (.ref j)) Q E s:=by
 obtain⟨o,n,M,hd⟩:=id hit;obtain⟨ol,q,_,nl,z⟩:=I;unfold Builtin.SmallTypes.nextOf;refine xG (ym (name:=Str.ofString "__next__") hit.typeIs AAa (yr AAa hit.typeIs entry_tupleiter_next ?_ (args_tupleiter_next _)));show wpAny _ _ (field (.ref j) 0 >>=_) _ _ s;refine xG (zP n hd (x:=.ref t) rfl ?_);show wpAny _ _ (if(Value.ref t==Value.none)=true then _ else _) _ _ s;rw[xJ (show¬((Value.ref t==Value.none)=true)from xy)];show wpAny _ _ (field (.ref j) 1 >>=_) _ _ s;refine xG (zP n hd (x:=.int i 0) rfl ?_);show wpAny _ _ (seqItems? (.ref t) >>=_) _ _ s;refine xG (zG q z ?_);simp only[yG,J];refine xG (AAm (xG (zj n hd (by simp) ?_)));show wpAny _ _ (newExc (.type "StopIteration") [] >>=_) _ _ _;refine xG ?_;simp only[newExc,newTuple];refine xG (yw ?_ (by size_fits));refine xG (m:=firstArgMember _ _) (ACD (a:=Value.none) (by first|rfl|(simp only[firstArgMember];rfl)) ?_);refine yw ?_ (by size_fits);simp only[raiseNew];refine xG (wpAny_handled ?_)
 first|rw[show A.in1.handled=none from B]|rw[B]
 refine xG (xU (wpAny_throw ?_));exact L _ _ (((yi ..).extBut.push _).push _) ⟨_,xf _ rfl,rfl⟩
theorem IsTupIter.at_(x:IsTupIter h a t i)(k:∀o,h.get? a=some o->h'.get? a=some o):IsTupIter h' a t i:=let⟨o,j,r⟩:=x;⟨o,k o j,r⟩
theorem i9(J:A.handled=none)(j t:Addr)(z:t≠j)(items:Array Value):
  Draws prog w A j [j,t] items.size (λi v=>items[i]?=some v) (λi h=>IsTupIter h j t i/\IsTup h t items) where
 live:=λ_ _ st=>let⟨o,B,_⟩:=st.1;⟨o,B⟩
 frame:=λ_ _ _ st I=>⟨IsTupIter.at_ st.1 λo e=>I j (by simp) o e,let⟨o,B,r⟩:=st.2;⟨o,I t (by simp) o B,r⟩⟩
 item:=λi s Q E hi st L=>by refine OI st.1 st.2 (x:=items[i]) (by simp[hi]) λh' n q=>?_;exact L _ h' s.toks (by simp[hi]) ⟨n,st.2.extBut q.extBut z⟩ q
 done:=λs Q E st M=>HC J st.1 st.2 (by simp) M
set_option maxHeartbeats 1000000 in
theorem U9(t:Addr)(items:Array Value):
  Meets (Builtin.«enumerate.__new__» ⟨[.type "enumerate",.ref t],[]⟩) (λ_ R s=>IsTup s.heap t items/\
   R (.ok (.ret (.ref (s.heap.push {cls:=.type "tuple_iterator",data:=.fields #[.ref t,.int 0 0]}).objs.size)))
    {s with heap:=(s.heap.push {cls:=.type "tuple_iterator",data:=.fields #[.ref t,.int 0 0]}).push {cls:=.type "enumerate",data:=.fields #[.none,.bool false,.ref s.heap.objs.size,rawInt 0,.none,.none]}}):=
 .of_wp λprog w A R s h=>by
  obtain⟨J,g,d,tk,os⟩:=s;obtain⟨B,h⟩:=h;have I:=sub_enumerate;obtain⟨⟨c,L,M,N⟩,q,z,n,hd⟩:=id B;replace z:c=.type "tuple":=z;replace hd:M=.seq items n:=hd;subst z hd;have j:IsTup (Shared.heap ⟨J,g,d,tk,os⟩) t items:=B
  wp_walk using AAC q
  refine wpAny_stack_any λst=>xU ?_;split
  .rename_i c _ _ _ _ _;cases(c==Value.type "enumerate")
   .wp_walk using AAC q,iter_tuple j
    exact⟨_,rfl,h⟩
   .wp_walk using AAC q,iter_tuple j
    exact⟨_,rfl,h⟩
  .wp_walk using AAC q,iter_tuple j
   exact⟨_,rfl,h⟩
theorem WW(n:IsTup s.heap t items)
  (h:∀h',IsEnum h' (s.heap.objs.size+1) s.heap.objs.size 0 .none->IsTupIter h' s.heap.objs.size t 0->h'.objs.size=s.heap.objs.size+2->
   (∀b o,s.heap.get? b=some o->h'.get? b=some o)->Q (.ref (s.heap.objs.size+1)) {s with heap:=h'}):wpAny (model prog w) A (call (.type "enumerate") [.ref t]) Q E s:=by
 refine callType_new F.called_enumerate Dc (F.typeCall_enumerate_1 _) (F.newCall_enumerate_1 _) (λobj=>F.args_object_init_2 obj _) F.entry_enumerate_new (U9 t items) ⟨n,?_⟩;have hz:(s.heap.push {cls:=.type "tuple_iterator",data:=.fields #[.ref t,.int 0 0]}).objs.size=s.heap.objs.size+1:=x9 ..;show _/\_;rw[hz];have j:IsEnum ((s.heap.push {cls:=.type "tuple_iterator",data:=.fields #[.ref t,.int 0 0]}).push
   {cls:=.type "enumerate",data:=.fields #[.none,.bool false,.ref s.heap.objs.size,rawInt 0,.none,.none]}) (s.heap.objs.size+1) s.heap.objs.size 0 .none:=by
  have:=xf (s.heap.push {cls:=.type "tuple_iterator",data:=.fields #[.ref t,.int 0 0]})
   (o:={cls:=.type "enumerate",data:=.fields #[.none,.bool false,.ref s.heap.objs.size,rawInt 0,.none,.none]}) rfl
  rw[hz]at this;exact this
 exact⟨⟨_,j,rfl⟩,h _ j ⟨_,xN _ (xf _ rfl),rfl,rfl⟩ (by rw[x9,hz]) λb o x=>xN _ (xN _ x)⟩
theorem eW{z TI TO n q O U:Addr}{k1 k2:Nat}{xs ys:Array Value}{x y a b:Value}{Q:Value->Shared->Prop}(D:ZipApart z TI TO n q O U)
  (hz:IsZip s.heap z TI TO .none) (aa:IsPair s.heap TI (.ref n) (.ref q)) (ab:IsPair s.heap TO a b)
  (h1:IsTupIter s.heap n O k1) (h2:s.heap.IsListIter q U k2) (ae:IsTup s.heap O xs) (af:s.heap.IsList U ys) (hx:xs[k1]?=some x) (hy:ys[k2]?=some y)
  (hQ:∀h',IsZip h' z TI TO (rawInt s.heap.objs.size)->IsPair h' TO x y->IsTupIter h' n O (k1+1)->h'.IsListIter q U (k2+1)->IsPair h' s.heap.objs.size x y->h'.objs.size=s.heap.objs.size+1->
   (∀c o,c≠z->c≠TO->c≠n->c≠q->s.heap.get? c=some o->h'.get? c=some o)->Q (.ref s.heap.objs.size) {s with heap:=h'}):
  wpAny (model prog w) A (Builtin.«zip.__next__» ⟨[.ref z],[]⟩) (λfin s'=>∃v,fin=.done (.ret v)/\Q v s') E s:=by
 show wpAny _ _ (field (.ref z) 2 >>=_) _ _ _;refine xG (zP hz rfl (x:=.bool false) rfl ?_);show wpAny _ _ (field (.ref z) 3 >>=_) _ _ _;refine xG (zP hz rfl (x:=.ref TI) rfl ?_);refine xG (zG aa rfl ?_);show wpAny _ _ (Builtin.SmallTypes.ownedTupleIsFree (.ref z) >>=_) _ _ _;refine xG ?_;unfold Builtin.SmallTypes.ownedTupleIsFree;refine xG (zP hz rfl (x:=.none) rfl (xU ?_));simp only[AA9];refine xG (AAm ?_);refine xG (zP hz rfl (x:=.ref TO) rfl ?_);refine xG (zo hz (by simp) λg1 I J=>?_);replace I:IsZip g1 z TI TO .ellipsis:=I;refine xG ?_;simp only[List.zipIdx_cons,List.zipIdx_nil,AB7,ABR];refine xG (xG (ABf ?_));show wpAny _ _ (Builtin.SmallTypes.nextOf (.ref n) >>=_) _ _ _;refine xG (OI (h1.extBut J.extBut D.i1z) (ae.extBut J.extBut D.l1z) hx λg2 t2 M=>xU ?_);have o2:IsPair g2 TO a b:=M.extBut _ _ D.TOi1 (J.extBut _ _ D.TOz ab);refine xG (zG o2 rfl ?_);refine xG (ABK o2 λg3 o3 N=>?_);replace o3:IsPair g3 TO x b:=o3;refine xG (ACE (xU ?_));refine xG (xG (ABf ?_));show wpAny _ _ (Builtin.SmallTypes.nextOf (.ref q) >>=_) _ _ _;refine xG (wpAny_nextOf_list_item (((h2.extBut J.extBut D.i2z).extBut M.extBut D.i12.symm).extBut N.extBut D.TOi2.symm)
  (((af.extBut J.extBut D.l2z).extBut M.extBut D.l2i1).extBut N.extBut D.l2TO) hy λg4 t4 Y=>xU ?_)
 have o4:IsPair g4 TO x b:=Y.extBut _ _ D.TOi2 o3;refine xG (zG o4 rfl ?_);refine xG (ABK o4 λj o5 b5=>?_);replace o5:IsPair j TO x y:=o5;refine xG (ACE (xU (xU ?_)));refine xG (zG o5 rfl ?_);refine xG (wpAny_newTuple ?_);have hsz:j.objs.size=s.heap.objs.size:=by rw[b5.1,Y.1,N.1,M.1,J.1]
 have z5:IsZip j z TI TO .ellipsis:=b5.extBut _ _ D.TOz.symm (Y.extBut _ _ D.i2z.symm (N.extBut _ _ D.TOz.symm (M.extBut _ _ D.i1z.symm I)));have k5:∀c o,c≠z->c≠TO->c≠n->c≠q->s.heap.get? c=some o->j.get? c=some o:=λc o L c2 c3 c4 e=>
  b5.extBut _ _ c2 (Y.extBut _ _ c4 (N.extBut _ _ c2 (M.extBut _ _ c3 (J.extBut _ _ L e))))
 have t5:IsTupIter j n O (k1+1):=((t2.extBut N.extBut D.TOi1.symm).extBut Y.extBut D.i12).extBut b5.extBut D.TOi1.symm;have u5:j.IsListIter q U (k2+1):=t4.extBut b5.extBut D.TOi2.symm;have B:z<j.objs.size:=xj z5;show wpAny _ _ (Builtin.SmallTypes.ownedTupleHandOut (.ref z) (.ref j.objs.size) >>=_) _ _ _;refine xG ?_;unfold Builtin.SmallTypes.ownedTupleHandOut;have z6:IsZip (j.push {cls:=.type "tuple",data:=.seq #[x,y]}) z TI TO .ellipsis:=xN _ z5;refine xG (zo z6 (by simp) λg7 z7 b7=>?_);replace z7:IsZip g7 z TI TO (rawInt j.objs.size):=z7;refine zo z7 (by simp) λg8 z8 b8=>?_;replace z8:IsZip g8 z TI TO (rawInt j.objs.size):=z8;have up:∀c o,c≠z->j.get? c=some o->g8.get? c=some o:=λc o L e=>b8.extBut _ _ L (b7.extBut _ _ L (xN _ e));have p8:IsPair g8 j.objs.size x y:=b8.extBut _ _ (yY B) (b7.extBut _ _ (yY B) (xf _ rfl));have s8:g8.objs.size=j.objs.size+1:=by rw[b8.1,b7.1,x9]
 rw[hsz]at z8 p8 s8;refine xU ⟨_,rfl,?_⟩;show Q (.ref j.objs.size) _;rw[hsz];exact hQ g8 z8 (up _ _ D.TOz o5) (IsTupIter.at_ t5 λo e=>up _ o D.i1z e) (u5.at λo e=>up _ o D.i2z e) p8 s8 λc o L c2 c3 c4 e=>up c o L (k5 c o L c2 c3 c4 e)
theorem jb{z TI TO N O l1 l2:Addr}{k1 k2:Nat}{xs ys:Array Value}{a b:Value}{Q:Fin->Shared->Prop}(hh:A.handled=none)(D:ZipApart z TI TO N O l1 l2)
  (hz:IsZip s.heap z TI TO .none) (aa:IsPair s.heap TI (.ref N) (.ref O)) (ab:IsPair s.heap TO a b)
  (h1:IsTupIter s.heap N l1 k1) (h2:s.heap.IsListIter O l2 k2) (U:IsTup s.heap l1 xs) (ae:s.heap.IsList l2 ys) (Y:xs[k1]?=none\/ys[k2]?=none)
  (hE:∀h' e,(∀c o,c≠z->c≠TO->c≠N->c≠O->s.heap.get? c=some o->h'.get? c=some o)->(∃o,h'.get? e=some o/\o.cls=.type "StopIteration")->E (.ref e) {s with heap:=h'}):
  wpAny (model prog w) A (Builtin.«zip.__next__» ⟨[.ref z],[]⟩) Q E s:=by
 show wpAny _ _ (field (.ref z) 2 >>=_) _ _ _;refine xG (zP hz rfl (x:=.bool false) rfl ?_);show wpAny _ _ (field (.ref z) 3 >>=_) _ _ _;refine xG (zP hz rfl (x:=.ref TI) rfl ?_);refine xG (zG aa rfl ?_);show wpAny _ _ (Builtin.SmallTypes.ownedTupleIsFree (.ref z) >>=_) _ _ _;refine xG ?_;unfold Builtin.SmallTypes.ownedTupleIsFree;refine xG (zP hz rfl (x:=.none) rfl (xU ?_));simp only[AA9];refine xG (AAm ?_);refine xG (zP hz rfl (x:=.ref TO) rfl ?_);refine xG (zo hz (by simp) λg1 B I=>?_);replace B:IsZip g1 z TI TO .ellipsis:=B;refine xG ?_;simp only[List.zipIdx_cons,List.zipIdx_nil,AB7,ABR];refine xG (xG (ABf ?_));show wpAny _ _ (Builtin.SmallTypes.nextOf (.ref N) >>=_) _ _ _;cases hx:xs[k1]? with
 |none=>
  refine xG (HC hh (h1.extBut I.extBut D.i1z) (U.extBut I.extBut D.l1z) hx λg2 e J he=>?_);obtain⟨oe,j,n⟩:=he;have z2:IsZip g2 z TI TO .ellipsis:=J _ _ D.i1z.symm B;have L:e≠z:=λq=>by subst q;rw[z2]at j;cases j;simp at n
  exact zo z2 (by simp) λg3 _ M=>hE g3 e (λc o c1 _ c3 _ q=>M.extBut _ _ c1 (J _ _ c3 (I.extBut _ _ c1 q))) ⟨oe,M.extBut _ _ L j,n⟩
 |some x=>
  have hy:ys[k2]?=none:=by rcases Y with q|q;rw[hx]at q;cases q;exact q
  refine xG (OI (h1.extBut I.extBut D.i1z) (U.extBut I.extBut D.l1z) hx λg2 t2 J=>xU ?_);have o2:IsPair g2 TO a b:=J.extBut _ _ D.TOi1 (I.extBut _ _ D.TOz ab);refine xG (zG o2 rfl ?_);refine xG (ABK o2 λg3 o3 M=>?_);refine xG (ACE (xU ?_));refine xG (xG (ABf ?_));show wpAny _ _ (Builtin.SmallTypes.nextOf (.ref O) >>=_) _ _ _;refine xG (wpAny_nextOf_list_end hh (((h2.extBut I.extBut D.i2z).extBut J.extBut D.i12.symm).extBut M.extBut D.TOi2.symm)
   (((ae.extBut I.extBut D.l2z).extBut J.extBut D.l2i1).extBut M.extBut D.l2TO) hy λg4 e b4 he=>?_)
  obtain⟨oe,j,n⟩:=he;have z4:IsZip g4 z TI TO .ellipsis:=b4 _ _ D.i2z.symm (M.extBut _ _ D.TOz.symm (J.extBut _ _ D.i1z.symm B));have L:e≠z:=λq=>by subst q;rw[z4]at j;cases j;simp at n
  exact zo z4 (by simp) λg5 _ b5=>hE g5 e (λc o c1 c2 c3 c4 q=>b5.extBut _ _ c1 (b4 _ _ c4 (M.extBut _ _ c2 (J.extBut _ _ c3 (I.extBut _ _ c1 q))))) ⟨oe,b5.extBut _ _ L j,n⟩
noncomputable abbrev uk(h:Heap)(j:Addr):Heap:=h.push {cls:=.type "tuple_iterator",data:=.fields #[.ref j,.int 0 0]}
abbrev uj(h:Heap)(j n:Addr):Heap:=(uk h j).push {cls:=.type "list_iterator",data:=.fields #[.ref n,.int 0 0]}
abbrev u6(h:Heap)(j n:Addr):Heap:=(uj h j n).push {cls:=.type "tuple",data:=.seq #[.ref h.objs.size,.ref (uk h j).objs.size]}
abbrev vC(h:Heap)(j n:Addr):Heap:=(u6 h j n).push {cls:=.type "tuple",data:=.seq #[.none,.none]}
abbrev sL(h:Heap)(j n:Addr):Heap:=(vC h j n).push {cls:=.type "zip",data:=.fields #[.none,.bool false,.bool false,.ref (uj h j n).objs.size,.ref (u6 h j n).objs.size]}
set_option maxHeartbeats 1000000 in
theorem cv(j n:Addr)(xs ys:Array Value):
  Meets (Builtin.«zip.__new__» ⟨[.type "zip",.ref j,.ref n],[]⟩) (λ_ R s=>IsTup s.heap j xs/\s.heap.IsList n ys/\R (.ok (.ret (.ref (vC s.heap j n).objs.size))) {s with heap:=sL s.heap j n}):=
 .of_wp λprog w A R s h=>by
  obtain⟨J,g,d,tk,os⟩:=s;obtain⟨q,z,h⟩:=h;have L:=sub_zip;have B:IsTup (Shared.heap ⟨J,g,d,tk,os⟩) j xs:=q;have I:Heap.IsList (Shared.heap ⟨J.push {cls:=.type "tuple_iterator",data:=.fields #[.ref j,.int 0 0]},g,d,tk,os⟩) n ys:=Heap.IsList.push z _
  wp_walk using iter_tuple B,AAp I
  exact⟨_,rfl,h⟩
theorem fU(z:IsTup s.heap j xs)(B:s.heap.IsList n ys)
  (h:∀h',IsZip h' (s.heap.objs.size+4) (s.heap.objs.size+2) (s.heap.objs.size+3) .none->IsPair h' (s.heap.objs.size+2) (.ref s.heap.objs.size) (.ref (s.heap.objs.size+1))->
   IsPair h' (s.heap.objs.size+3) .none .none->IsTupIter h' s.heap.objs.size j 0->h'.IsListIter (s.heap.objs.size+1) n 0->h'.objs.size=s.heap.objs.size+5->
   (∀c o,s.heap.get? c=some o->h'.get? c=some o)->Q (.ref (s.heap.objs.size+4)) {s with heap:=h'}):wpAny (model prog w) A (call (.type "zip") [.ref j,.ref n]) Q E s:=by
 refine callType_new F.called_zip Dc (F.typeCall_zip_2 _ _) (F.newCall_zip_2 _ _) (λobj=>F.args_object_init_3 obj _ _) F.entry_zip_new (cv j n xs ys) ⟨z,B,?_⟩;have I:(uk s.heap j).objs.size=s.heap.objs.size+1:=x9 ..;have J:(uj s.heap j n).objs.size=s.heap.objs.size+2:=by rw[x9,I]
 have L:(u6 s.heap j n).objs.size=s.heap.objs.size+3:=by rw[x9,J]
 have M:(vC s.heap j n).objs.size=s.heap.objs.size+4:=by rw[x9,L]
 have U:(sL s.heap j n).objs.size=s.heap.objs.size+5:=by rw[x9,M]
 have N:(sL s.heap j n).get? (vC s.heap j n).objs.size=some _:=xf _ rfl;have O:(sL s.heap j n).get? (u6 s.heap j n).objs.size=some _:=xN _ (xf _ rfl);have g3:(sL s.heap j n).get? (uj s.heap j n).objs.size=some _:=xN _ (xN _ (xf _ rfl));have g2:(sL s.heap j n).get? (uk s.heap j).objs.size=some _:=xN _ (xN _ (xN _ (xf _ rfl)));have g1:(sL s.heap j n).get? s.heap.objs.size=some _:=xN _ (xN _ (xN _ (xN _ (xf _ rfl))));show _/\_;rw[J,L,M]at N;rw[I,J]at g3;rw[L]at O;rw[I]at g2;rw[M];exact⟨⟨_,N,rfl⟩,h _ N g3 O ⟨_,g1,rfl,rfl⟩ ⟨_,g2,rfl,rfl⟩ U λc o q=>xN _ (xN _ (xN _ (xN _ (xN _ q))))⟩
end
end CE
end
section
namespace CE
open PySem PySem.Spec PyProof.Rows L2
def KD(w:World)(K:PySem.W.Frag)(a:Addr)(kvs:List (Key×V)):Prop:=
 ∀(P:Program)(h:Heap),K.In h->(a==sysModules)=false/\∃vs,KV kvs vs/\h.DictOf (BQ P w) a vs
def uH(w:World)(K:PySem.W.Frag)(td ty:TE):TE:=λσ H Q=>td σ H λx H1=>ty σ H1 λy H2=>∃a kvs k v,x=.ref a/\KD w K a kvs/\y=kV k/\C4 kvs k=some v/\Q v H2
def wA(w:World)(K:PySem.W.Frag)(ty td:TE):TE:=λσ H Q=>ty σ H λy H1=>td σ H1 λx H2=>∃a kvs k,x=.ref a/\KD w K a kvs/\y=kV k/\Q (.bl (C4 kvs k).isSome) H2
def qO(w:World)(K:PySem.W.Frag)(td ty tx:TE):TE:=λσ H Q=>td σ H λx H1=>∃a kvs,x=.ref a/\KD w K a kvs/\ty σ H1 λy H2=>tx σ H2 λz j=>∃k,y=kV k/\Q ((C4 kvs k).getD z) j
section
variable{X:Cx}{o i e f:Expr}{pos apos cpos:Pos}{td ty tx:TE}
theorem Ff(z:PE X o td)(hi:PE X i ty)(B:rQ i):PE X (.Subscript o i pos) (uH X.w X.K td ty):=by intro pins s σ H Q I h;refine iJ ABm.lookup B (Bw (z pins s σ H _ I h) λu J⟨x,H1,L,M,N⟩=>Bw (hi pins J σ H1 _ L N) λiv O U=>?_);obtain⟨y,H2,n,Y,a,kvs,k,v,ex,g,ey,l,q2⟩:=U;subst ex ey;obtain rfl:u=Value.ref a:=M;obtain⟨hd,vs,rel,q⟩:=g X.prog O.heap n.WL;obtain⟨w',hw,j⟩:=Jz.some_of (v:=v) (o:=valueAt vs k) (by rw[<-l];exact rel.val k);exact⟨q.typeIs,wpAny_getItem_of (SQ Y) q.mapOf hw ⟨v,H2,n.tok _,j,q2⟩⟩
theorem Yv(hi:PE X i ty)(n:PE X o td):PC X .In i o (wA X.w X.K ty td):=by intro pins s σ H Q I h;refine Bw (hi pins s σ H _ I h) λiv q⟨y,H1,z,B,J⟩=>Bw (n pins q σ H1 _ z J) λu L M=>?_;obtain⟨x,H2,j,N,a,kvs,k,ex,g,O,U⟩:=M;subst ex O;obtain rfl:u=Value.ref a:=N;obtain⟨hd,vs,rel,Y⟩:=g X.prog L.heap j.WL;refine wpAny_in_of (SQ B) hd Y.mapOf ?_;rw[<-(rel.val k).Xf];exact⟨.bl (C4 kvs k).isSome,H2,j.tok _,rfl,U⟩
theorem XD(M:PE X o td)(N:PE X e ty)(O:PE X f tx)(m:M2 X o "get" apos e f cpos):PE X (.Call (.Attribute o "get" apos) [e,f] [] cpos) (qO X.w X.K td ty tx):=by
 intro pins s σ H Q I h;refine AAr m.base m.Wh m.line AB4 zq PySem.F.type_dict_get (Bw (M pins s σ H _ I h) λu n U=>?_);obtain⟨x,H1,q,Y,a,kvs,ex,g,q1⟩:=U;subst ex;obtain rfl:u=Value.ref a:=Y;obtain⟨aa,ab,B,j⟩:=g X.prog n.heap q.WL;refine⟨j.typeIs,j.mapOf.noDict,?_⟩;rw[m.trees];refine AAM rfl (ABD (AAG (Bw (N pins n σ H1 _ q q1) λiv s2⟨y,H2,I2,ry,q2⟩=>
  AAG (Bw (O pins s2 σ H2 _ I2 q2) λfv s3⟨z,H3,J,rz,k,ey,q3⟩=>ABh ?_))))
 subst ey;obtain⟨hd,vs,rel,L⟩:=g X.prog s3.heap J.WL;refine call_meetsIn zq L.typeIs AAx (AAn _ _ _) (meets_dict_get_default (BQ X.prog X.w) a (SQ ry) hd fv) ⟨_,L.mapOf,⟨_,H3,J.tok _,?_,q3⟩⟩;exact(rel.val k).getD rz
theorem gs(h:∃t,X.mg x=some (.str n t))(j:Gl X x:=by rfl)(hd:(x==("__debug__":Str))=false:=by decide):PE X (.Name x pos) (tC (.str n)):=
 let⟨t,e⟩:=h
 CF j e ⟨t,rfl⟩ hd
end
def km(K:PySem.W.Frag)(a:Addr):It:=
 ⟨λi H=>∃(xs:List V)(x:V),Cd K H a xs/\xs[i]?=some x,λi H v H'=>∃T x,v=.ref T/\H T=none/\H'=upd H T (.tup [.int (i:Nat),x])/\∀xs,Cd K H a xs->xs[i]?=some x,λi H=>∃xs:List V,Cd K H a xs/\xs.length<=i⟩
theorem eM{P:Program}{w:World}{K:PySem.W.Frag}{Y:List Expr}{kk:Nat}{tpos:Pos}(a e n:Addr):
  Turn P w K (.Tuple Y kk tpos) (km K a) [e,n] e (λi h=>(∃old,IsEnum h e n ((i:Nat):Int) old)/\IsTupIter h n a i/\e≠n/\a≠n/\a≠e) where
 mem:=by simp
 obj:=λi h st b J=>by
  obtain⟨⟨old,L⟩,⟨o,M,hc,hd⟩,_⟩:=st;have e':b=e\/b=n:=by simpa using J
  rcases e' with z|z
  .rw[z];exact⟨_,L,λv q=>nomatch q⟩
  .rw[z];exact⟨o,M,λv q=>by rw[hd]at q;cases q⟩
 keep:=λi h h' st k=>let⟨⟨old,L⟩,hi,B⟩:=st;⟨⟨old,k e (by simp) _ L⟩,IsTupIter.at_ hi λo q=>k n (by simp) o q,B⟩
 item:=by
  intro X hP hw hK hc i pins s σ H E I hf st hg;subst hP hw hK;obtain⟨⟨old,L⟩,hit,B,N,O⟩:=st;obtain⟨xs,x,hq,hx⟩:=hg;obtain⟨its,rv,p,hz⟩:=I.tuple hq;obtain⟨u,hu,ru⟩:=rv.get hx;have aa:e<s.heap.objs.size:=xj L;have ab:n<s.heap.objs.size:=by obtain⟨_,q,_⟩:=hit;exact xj q
  have ae:i<its.toArray.size:=by have:=(xP.mp hu).1;simpa using this
  refine wpAny_pyNext_enum_itemD (i9 (A:=X.A.in1) (I.ok.hd hc) n a N its.toArray) L ⟨hit,p⟩ ae B (by simp;exact⟨B,x8 O⟩) λx' h' tk af M ag hT hsz hk=>?_;have ex:x'=u:=by have:its.toArray[i]?=some x':=af;rw[List.getElem?_toArray,hu]at this;exact(xn this).symm
  subst ex;refine⟨_,rfl,wpAny_letOwnedTupleGo_enum (s:={s with heap:=h',toks:=tk+1}) M λU ah sb=>?_⟩;have ai:U.get? s.heap.objs.size=some {cls:=.type "tuple",data:=.seq #[.int i tk,x']}:=(sb.2 _ (yY aa)).trans hT;have new:CC X.prog X.w (upd H s.heap.objs.size (.tup [.int (i:Nat),x])) U s.heap.objs.size (.tup [.int (i:Nat),x]):=
   ⟨by show 2<=sizeLine;decide,[.int i tk,x'],.cons ⟨_,rfl⟩ (.cons ru .nil),⟨_,ai,rfl,_,rfl⟩⟩
  have I1:Inv X pins σ (upd H s.heap.objs.size (.tup [.int (i:Nat),x])) {s with heap:=U,toks:=tk+1}:=
   I.MX (ch:=[e,n]) (λb ob J q=>(sb.2 b (λz=>J (by simp[z]))).trans (hk b ob (λz=>J (by simp[z])) (λz=>J (by simp[z])) q)) hf (xZ _) new
  refine⟨.ref s.heap.objs.size,_,I1,rfl,⟨_,x,rfl,I.Cb.fresh (xZ _),rfl,λys hy=>by rw[I.Qw hy hq];exact hx⟩,⟨⟨x',?_⟩,IsTupIter.at_ ag.1 λo q=>(sb.2 n (x8 B)).trans q,B,N,O⟩,λb J=>?_⟩
  .have e1:((i+1:Nat):Int)=(i:Int)+1:=by lia
   rw[e1];exact ah
  .have aj:b<s.heap.objs.size:=by
    have e':b=e\/b=n:=by simpa using J
    rcases e' with z|z
    .rw[z];exact aa
    .rw[z];exact ab
   rw[AG (x6 aj)];exact(hf b J).1
 done:=by
  intro X hP hw hK hc i pins s σ H E I hf st hg;subst hP hw hK;obtain⟨⟨old,L⟩,hit,B,N,O⟩:=st;obtain⟨xs,hq,hx⟩:=hg;obtain⟨its,rv,p,hz⟩:=I.tuple hq;obtain⟨f0,f1,f2,f3,f4,f5⟩:=hf n (by simp);have hl:=rv.length;have D:Draws X.prog X.w X.A.in1 n [n,a] i (λ_ _=>True) (λj h=>j=i/\IsTupIter h n a i/\IsTup h a its.toArray):=
   {live:=λ_ _ st=>let⟨o,M,_⟩:=st.2.1;⟨o,M⟩
    frame:=λ_ _ _ st hk=>⟨st.1,IsTupIter.at_ st.2.1 λo e=>hk n (by simp) o e,let⟨o,M,r⟩:=st.2.2;⟨o,hk a (by simp) o M,r⟩⟩
    item:=λj s Q E hj st hQ=>absurd st.1 (x6 hj)
    done:=λs Q E st hE=>HC (I.ok.hd hc) st.2.1 st.2.2 (by simp;lia) hE}
  exact wpAny_pyNext_enum_endD D L ⟨rfl,hit,p⟩ λh' eb=>⟨rfl,I.turned (t':=s.toks) (λb o J q=>eb b o J q) f0 f1 f3 f4 f5⟩
 self:=λA i s Q E st h=>let⟨⟨_,L⟩,_⟩:=st;AAs L h
inductive oN(K:PySem.W.Frag)(R:It->Hp->Prop)(vs:List V)(H1:Hp):Prop
 |mk (a xs) (_:vs=[.ref a]) (_:Cd K H1 a xs) (_:R (km K a) H1)
def rg(K:PySem.W.Frag)(ta:TA):TI:=λσ H R=>ta σ H (oN K R)
theorem mY{X:Cx}{e:Expr}{ta:TA}{p pos tpos:Pos}{n:List Expr}{O:Nat}(U:Gl X "enumerate")(Y:X.mg "enumerate"=none)(ha:PA X [e] ta)(hs:starEach [e] X.env=[(false,eval e X.env)]:=by rfl):
  PI X (.Tuple n O tpos) (.Call (.Name "enumerate" p) [e] [] pos) (rg X.K ta):=by
 intro pins s σ H R I h;refine Call_ (Lv I U Y boot_enumerate (yz (Bw (ha pos pins s σ H _ I h) λus j⟨vs,H1,L,r1,q1⟩=>?_) hs rfl));obtain⟨a,xs,ex,hq,q⟩:=q1;subst ex;cases r1 with
 |cons r rr=>
  cases rr;cases r;obtain⟨its,rv,M,hz⟩:=L.tuple hq;have B:a<j.heap.objs.size:=M.lt;refine WW M λh' N hit hsz hk=>AAs N ?_;have I2:Inv X pins σ H1 {j with heap:=h'}:=L.kept (t':=j.toks) hk;refine⟨j.heap.objs.size+1,[j.heap.objs.size+1,j.heap.objs.size],_,_,H1,rfl,I2,eM a (j.heap.objs.size+1) j.heap.objs.size,⟨⟨.none,N⟩,hit,Nat.succ_ne_self _,x6 B,x6 (yW B)⟩,λb hb=>?_,q⟩;have e':b=j.heap.objs.size+1\/b=j.heap.objs.size:=by simpa using hb
  have J:j.heap.objs.size<=b:=by
   rcases e' with z|z
   .rw[z];exact zi _ _
   .rw[z];exact xZ _
  exact L.Zo J (L.Cb.fresh J)
theorem kc{K:PySem.W.Frag}{a:Addr}{xs:List V}{g:TG}{J:TT}{te:TE}{vs:List Nat}{σ:L2.St}{H1:Hp}{D:Addr}{L:Hp->Prop}(Pv:Nat->Hp->Prop)(N:Pv 0 (upd H1 D (.lst [])))(B:∀H,Cd K H a xs)
  (O:∀i x H T,xs[i]?=some x->Pv i H->H T=none->g (.ref T) (wipe σ vs) (upd H T (.tup [.int (i:Nat),x])) λj H2=>wipe j vs=wipe σ vs/\J j H2 λb n=>
   if b=true then te j n λy q=>∃acc,q D=some (.lst acc)/\acc.length<sizeLine/\Pv (i+1) (upd q D (.lst (acc++[y])))else Pv (i+1) n) (hd:∀H,Pv xs.length H->L H):
  ∃W:Nat->Nat->Hp->Prop,(∃m,W 0 m (upd H1 D (.lst [])))/\∀i m H,W i m H->
   ((km K a).stop i H/\L H)\/((km K a).go i H/\∃I:Hp->Prop,(∀H',I H'->∃M,M<m/\W (i+1) M H')/\∀x H',(km K a).jz i H x H'->g x (wipe σ vs) H' λj H2=>wipe j vs=wipe σ vs/\J j H2 λb n=>
    if b=true then te j n λy q=>∃acc,q D=some (.lst acc)/\acc.length<sizeLine/\I (upd q D (.lst (acc++[y])))else I n):=by
 refine⟨λi m H=>m=xs.length - i/\i<=xs.length/\Pv i H,⟨xs.length,by simp,xi _,N⟩,?_⟩;rintro i m H ⟨rfl,hi,p⟩;by_cases z:i<xs.length
 .refine .inr ⟨⟨xs,xs[i],B H,by simp[z]⟩,Pv (i+1),λH' U=>⟨xs.length - (i+1),Om,rfl,z,U⟩,λx H' y=>?_⟩;obtain⟨T,Y,e1,e2,e3,y⟩:=y;subst e1 e3;exact O i Y H T (y xs (B H)) p e2
 .have e:i=xs.length:=by lia
  subst e;exact .inl ⟨⟨xs,B H,xZ _⟩,hd H p⟩
def lD(K:PySem.W.Frag)(a b:Addr):It:=
 ⟨λi H=>∃(xs ys:List V)(x y:V),Cd K H a xs/\Ah K H b ys/\xs[i]?=some x/\ys[i]?=some y,
  λi H v H'=>∃T x y,v=.ref T/\H T=none/\H'=upd H T (.tup [x,y])/\(∀xs,Cd K H a xs->xs[i]?=some x)/\∀ys,Ah K H b ys->ys[i]?=some y,
  λi H=>∃xs ys:List V,Cd K H a xs/\Ah K H b ys/\(xs.length<=i\/ys.length<=i)⟩
theorem d4{P:Program}{w:World}{K:PySem.W.Frag}{ab:List Expr}{kk:Nat}{tpos:Pos}{a b z TI TO L M:Addr}(D:ZipApart z TI TO L M a b):
  Turn P w K (.Tuple ab kk tpos) (lD K a b) [z,TI,TO,L,M] z (λi h=>IsZip h z TI TO .none/\IsPair h TI (.ref L) (.ref M)/\(∃x y,IsPair h TO x y)/\IsTupIter h L a i/\h.IsListIter M b i) where
 mem:=by simp
 obj:=λi h st c hc=>by
  obtain⟨hz,j,⟨x,y,n⟩,⟨o1,e1,_,d1⟩,⟨o2,e2,_,d2⟩⟩:=st;have e':c=z\/c=TI\/c=TO\/c=L\/c=M:=by simpa using hc
  rcases e' with q|q|q|q|q
  .rw[q];exact⟨_,hz,λv q=>nomatch q⟩
  .rw[q];exact⟨_,j,λv q=>nomatch q⟩
  .rw[q];exact⟨_,n,λv q=>nomatch q⟩
  .rw[q];exact⟨o1,e1,λv q=>by rw[d1]at q;cases q⟩
  .rw[q];exact⟨o2,e2,λv q=>by rw[d2]at q;cases q⟩
 keep:=λi h h' st k=>by obtain⟨hz,j,⟨x,y,n⟩,h1,h2⟩:=st;exact⟨k z (by simp) _ hz,k TI (by simp) _ j,⟨x,y,k TO (by simp) _ n⟩,IsTupIter.at_ h1 λo q=>k L (by simp) o q,h2.at λo q=>k M (by simp) o q⟩
 item:=by
  intro X hP hw hK hc i pins s σ H E I hf st hg;subst hP hw hK;obtain⟨hz,j,⟨x0,y0,n⟩,h1,h2⟩:=st;obtain⟨xs,ys,x,y,N,O,hx,hy⟩:=hg;obtain⟨its,rv,p,_⟩:=I.tuple N;obtain⟨U,Y,p2,_⟩:=I.list O;obtain⟨u,hu,ru⟩:=rv.get hx;obtain⟨u2,ai,aj⟩:=Y.get hy;have ae:z<s.heap.objs.size:=xj hz;have hT:s.TypeIs (.ref z) "zip":=⟨_,hz,rfl⟩;unfold pyNext;refine xG (AAF (ym (name:=Str.ofString "__next__") hT ABL (yr ABL hT F.entry_zip_next
   (eW D hz j n h1 h2 p p2.isList (x:=u) (y:=u2) (by simpa using hu) (by simpa using ai) λh' z' ak am an ao hsz hk=>xU ?_) (F.args_zip_next_1 _))))
  refine⟨_,rfl,wpAny_letOwnedTupleGo_zip (s:={s with heap:=h'}) z' λaa ap sb=>?_⟩;have aq:aa.get? s.heap.objs.size=some {cls:=.type "tuple",data:=.seq #[u,u2]}:=(sb.2 _ (yY ae)).trans ao;have new:CC X.prog X.w (upd H s.heap.objs.size (.tup [x,y])) aa s.heap.objs.size (.tup [x,y]):=
   ⟨by show 2<=sizeLine;decide,[u,u2],.cons ru (.cons aj .nil),⟨_,aq,rfl,_,rfl⟩⟩
  have I1:Inv X pins σ (upd H s.heap.objs.size (.tup [x,y])) {s with heap:=aa}:=
   I.MX (t':=s.toks) (ch:=[z,TI,TO,L,M]) (λc o J q=>(sb.2 c (λB=>J (by simp[B]))).trans (hk c o (λB=>J (by simp[B])) (λB=>J (by simp[B])) (λB=>J (by simp[B])) (λB=>J (by simp[B])) q)) hf (xZ _) new
  refine⟨.ref s.heap.objs.size,_,I1,rfl,⟨_,x,y,rfl,I.Cb.fresh (xZ _),rfl,λl hl=>by rw[I.Qw hl N];exact hx,λl hl=>by rw[I.VA hl O];exact hy⟩,⟨ap,?_,⟨u,u2,?_⟩,?_,?_⟩,λc af=>?_⟩
  .exact(sb.2 _ D.TIz).trans (hk _ _ D.TIz D.TITO D.TIi1 D.TIi2 j)
  .exact(sb.2 _ D.TOz).trans ak
  .exact IsTupIter.at_ am λo q=>(sb.2 _ D.i1z).trans q
  .exact an.at λo q=>(sb.2 _ D.i2z).trans q
  .have ar:c<s.heap.objs.size:=by
    have e':c=z\/c=TI\/c=TO\/c=L\/c=M:=by simpa using af
    rcases e' with q|q|q|q|q
    .rw[q];exact ae
    .rw[q];exact xj j
    .rw[q];exact xj n
    .rw[q];obtain⟨_,e1,_⟩:=h1;exact xj e1
    .rw[q];obtain⟨_,e2,_⟩:=h2;exact xj e2
   rw[AG (x6 ar)];exact(hf c af).1
 done:=by
  intro X hP hw hK hc i pins s σ H E I hf st hg;subst hP hw hK;obtain⟨hz,j,⟨x0,y0,n⟩,h1,h2⟩:=st;obtain⟨xs,ys,N,O,ag⟩:=hg;obtain⟨its,rv,p,_⟩:=I.tuple N;obtain⟨U,Y,p2,_⟩:=I.list O;have l1:=rv.length;have l2:=Y.length;have he:its.toArray[i]?=none\/U.toArray[i]?=none:=by
   rcases ag with q|q
   .exact .inl (by simp;lia)
   .exact .inr (by simp;lia)
  have hT:s.TypeIs (.ref z) "zip":=⟨_,hz,rfl⟩;unfold pyNext;refine xG (AAF (ym (name:=Str.ofString "__next__") hT ABL (yr ABL hT F.entry_zip_next
   (jb (A:=X.A.in1) (I.ok.hd hc) D hz j n h1 h2 p p2.isList he λh' e hk hx=>?_) (F.args_zip_next_1 _))))
  obtain⟨o,ho,ah⟩:=hx;refine xG (AA7 (T:="StopIteration") (b:=true) ⟨o,ho,ah⟩ isSubtype_stop ?_);exact xU ⟨rfl,I.oO (t':=s.toks) (ch:=[z,TI,TO,L,M]) (λc o J q=>hk c o (λB=>J (by simp[B])) (λB=>J (by simp[B])) (λB=>J (by simp[B])) (λB=>J (by simp[B])) q) hf⟩
 self:=λA i s Q E st h=>wpAny_pyIter_zip st.1 h
inductive oX(K:PySem.W.Frag)(R:It->Hp->Prop)(vs:List V)(H1:Hp):Prop
 |mk (a b xs ys) (_:vs=[.ref a,.ref b]) (_:Cd K H1 a xs) (_:Ah K H1 b ys) (_:R (lD K a b) H1)
def qS(K:PySem.W.Frag)(ta:TA):TI:=λσ H R=>ta σ H (oX K R)
theorem bZ{X:Cx}{e n:Expr}{ta:TA}{p pos tpos:Pos}{B:List Expr}{kk:Nat}(hg:Gl X "zip")(hm:X.mg "zip"=none)(ha:PA X [e,n] ta)
  (hs:starEach [e,n] X.env=(false,eval e X.env)::starEach [n] X.env:=by rfl) (M:(backTo pos (starEach [n] X.env)).any (·.1)=false:=by rfl):
  PI X (.Tuple B kk tpos) (.Call (.Name "zip" p) [e,n] [] pos) (qS X.K ta):=by
 intro pins s σ H R I h;refine Call_ (Lv I hg hm jx (yz (Bw (ha pos pins s σ H _ I h) λus j⟨vs,H1,J,r1,q1⟩=>?_) hs M));obtain⟨a,b,xs,ys,ex,N,O,q⟩:=q1;subst ex;cases r1 with
 |cons r U=>
  cases U with
  |cons r' U=>
   cases U;cases r;cases r';obtain⟨its,rv,p1,_⟩:=J.tuple N;obtain⟨ae,af,p2,_⟩:=J.list O;have la:a<j.heap.objs.size:=p1.lt;have lb:b<j.heap.objs.size:=p2.lt;refine fU p1 p2.isList λh' hz Y aa h1 h2 hsz hk=>wpAny_pyIter_zip hz ?_;have I2:Inv X pins σ H1 {j with heap:=h'}:=J.kept (t':=j.toks) hk;refine⟨j.heap.objs.size+4,[j.heap.objs.size+4,j.heap.objs.size+2,j.heap.objs.size+3,j.heap.objs.size,j.heap.objs.size+1],_,_,H1,rfl,I2,d4 (PySem.W.ktu_apart j.heap.objs.size a b la lb),⟨hz,Y,⟨_,_,aa⟩,h1,h2⟩,λc ab=>?_,q⟩;have e':c=j.heap.objs.size+4\/c=j.heap.objs.size+2\/c=j.heap.objs.size+3\/c=j.heap.objs.size\/c=j.heap.objs.size+1:=by simpa using ab
   have L:j.heap.objs.size<=c:=by
    rcases e' with z|z|z|z|z
    .rw[z];exact zi _ _
    .rw[z];exact zi _ _
    .rw[z];exact zi _ _
    .rw[z];exact xZ _
    .rw[z];exact zi _ _
   exact J.Zo L (J.Cb.fresh L)
noncomputable def c5(p d:Addr):HO:=.ext λh=>h.IsValuesView p d
inductive sJ(Q:VK)(x:V)(H1:Hp):Prop
 |mk (d kvs) (_:x=.ref d) (_:Rd H1 d (.dK kvs)) (_:∀p,H1 p=none->Q (.ref p) (upd H1 p (c5 p d)))
def uL(td:TE):TE:=λσ H Q=>td σ H (sJ Q)
section
variable{X:Cx}{e:Expr}{td:TE}{apos cpos:Pos}
theorem jL(L:PE X e td)(n:attributeBase e "values" X.env (eval e X.env)=eval e X.env:=by rfl)(z:(apos.endLine==cpos.line)=true:=by rfl):PE X (.Call (.Attribute e "values" apos) [] [] cpos) (uL td):=by
 intro pins s σ H Q I h;refine AAr (T:="dict") (id:="dict.values") n rfl z F.plainAttrs_dict F.slot_dict_values F.type_dict_values (Bw (L pins s σ H _ I h) λu j M=>?_);obtain⟨x,H1,J,N,d,kvs,ex,hd,q⟩:=M;subst ex;obtain rfl:u=Value.ref d:=N;obtain⟨hz,O,vs,kv,B⟩:=VF J.Cb hd;refine⟨B.typeIs,B.mapOf.noDict,?_⟩;have U:Heap.IsValuesView (j.heap.push {cls:=.type "dict_values",data:=.fields #[.ref d]}) j.heap.objs.size d:=⟨_,xf _ rfl,rfl,rfl⟩;have fin:EP X pins σ Q (.ref j.heap.objs.size) {j with heap:=j.heap.push {cls:=.type "dict_values",data:=.fields #[.ref d]}}:=by refine⟨.ref j.heap.objs.size,upd H1 j.heap.objs.size (c5 j.heap.objs.size d),J.laid (t':=j.toks) (λb ob q=>xN _ q) (xZ _) ⟨U,⟨_,xf _ rfl⟩,λh1 h2 x k=>?_⟩,rfl,q _ (J.Cb.fresh (xZ _))⟩;obtain⟨o,Y,r⟩:=x;exact⟨o,k o Y,r⟩
 show wpAny _ _ (callWith cpos (.builtin "dict.values") [.ref d] [] []) _ X.xe j;exact method_meetsIn F.slot_dict_values F.entry_dict_values rfl (ABP ⟨rfl,B.typeIs,F.args_dict_values_1 _,_,meets_dict_values (BQ X.prog X.w) d O,⟨vs,B⟩,fin⟩)
theorem pL{kvs:List (Key×V)}{ns:List Int}(h:kvs.map (·.2)=ns.map V.int){i:Nat}{k:Key}{v:V}(e:kvs[i]?=some (k,v)):v=.int (ns.getD i 0):=by
 have h1:(kvs.map (·.2))[i]?=some v:=by rw[xh,e];rfl
 rw[h,xh]at h1;cases z:ns[i]? with
 |none=>rw[z]at h1;cases h1
 |some n=>rw[z]at h1;rw[zu,z];exact(xn h1).symm
theorem ft(hc:X.calm=true):Ot X (.builtin "sum") (λvs H Q=>∃(p d:Addr)(kvs:List (Key×V))(ns:List Int),vs=[.ref p]/\H p=some (c5 p d)/\Rd H d (.dK kvs)/\kvs.map (·.2)=ns.map V.int/\Q (.int ns.sum) H):=by
 intro pins s σ H vs us Q I r h;obtain⟨p,d,kvs,ns,rfl,hp,hd,U,q⟩:=h;rw[Vals.eX r];obtain⟨Y,_,_⟩:=(show CC X.prog X.w H s.heap p (c5 p d)from I.Cb p _ hp);obtain⟨hz,hs,j,kv,o,es,ep,hm⟩:=VF I.Cb hd;have hl:kvs.length=j.length:=zF kv;have K:=PySem.W.kdl_values (prog:=X.prog) (w:=X.w) (knd:=BQ X.prog X.w) (d:=d) (r:=p) (kvs:=j) (ep:=ep);have n:s.heap.DictAt (BQ X.prog X.w) d j ep:=⟨o,es,hm⟩;refine call_sum_walkAnyS ?_;obtain⟨oI,St,hit,W,st⟩:=K.iter X.A.in1 s (I.ok.hd hc) ⟨Y,n⟩;refine hit _ _ ⟨s.heap.objs.size,_,_,_,j.length,_,_,λi=>ns.getD i 0,rfl,W.toS,st,λb J=>?_,λi v L=>?_,λs' t' mv=>?_⟩
 .show b< (s.heap.push oI).objs.size;rw[x9];rcases xb.mp J with e|J
  .rw[e];exact z3 _
  .rw[yD.mp J];exact yW (K.there _ ⟨Y,n⟩).2
 .obtain⟨k,B⟩:=L;have hi:i<kvs.length:=by rw[hl];exact(xP.mp B).1
  obtain⟨u,hu,ru⟩:=eS kv (xW hi);rw[B]at hu;have M:kvs[i]?=some (kvs[i].1,kvs[i].2):=xW hi;have N:v=u:=by have:=xn hu;injection this
  have O:=pL U M;have z:L2.RelV kvs[i].2 u:=ru;rw[O]at z;rw[N];exact z
 .have B:∀b o,s.heap.get? b=some o->s'.heap.get? b=some o:=λb o e=>
   mv.heap b o (λhI=>absurd (xj e) (by rw[yD.mp hI];exact y8 _)) (xN _ e)
  rw[Moved.eq_with mv];have e1:preSum (λi=>ns.getD i 0) j.length=ns.sum:=by rw[preSum_getD,yT];have:=x3 List.length U;rw[xH,xH]at this;lia
  rw[e1];exact⟨.int ns.sum,H,I.kept B,⟨_,rfl⟩,q⟩
def Sk(w:World)(p:Addr)(ks:List Int):HO:=.ext λh=>HL (NO w) h p ks
theorem XX:bootBuiltins "set"=some (.type "set"):=by decide+kernel
theorem J5:bootBuiltins "sorted"=some (.builtin "sorted"):=by decide+kernel
theorem gc(n:X.calm=true):Ot X (.type "set") (λvs H Q=>∃(a:Addr)(ns:List Int),vs=[.ref a]/\Ah X.K H a (ns.map V.int)/\ns.length<1000/\∀(p:Addr)(ks:List Int),H p=none->ks.Nodup->(∀x,x∈ks↔x∈ns)->Q (.ref p) (upd H p (Sk X.w p ks))):=by intro pins s σ H vs us Q I r h;obtain⟨a,ns,rfl,z,U,q⟩:=h;obtain⟨its,B,j,_⟩:=I.list z;rw[Vals.eX r];have hi:=B.ints;refine iw (I.ok.hd n) j.isList (by simpa using hi) (by rw[x1,hi.length];unfold scanBound;lia) λh' tk ks S J L=>?_;obtain⟨o,es,ep,t,M,Y,hd,hz,N,O,hb,hf,hT⟩:=id S;refine⟨.ref s.heap.objs.size,upd H s.heap.objs.size (Sk X.w s.heap.objs.size ks),I.laid (t':=tk) (λb u e=>L b u (xj e) e) (xZ _) ⟨S,⟨o,M⟩,λh1 h2 x k=>?_⟩,rfl,q _ ks (I.Cb.fresh (xZ _)) O J⟩;exact HL.keep x k
theorem Ub(L:X.calm=true):Ot X (.builtin "sorted") (λvs H Q=>∃(p:Addr)(ks:List Int),vs=[.ref p]/\H p=some (Sk X.w p ks)/\ks.length<64/\∀(D:Addr)(ns:List Int),H D=none->ns.Perm ks->ns.Pairwise (· <= ·)->Q (.ref D) (upd H D (.lst (ns.map V.int)))):=by
 intro pins s σ H vs us Q I r h;obtain⟨p,ks,rfl,M,n,q⟩:=h;rw[Vals.eX r];obtain⟨S,_,_⟩:=(show CC X.prog X.w H s.heap p (Sk X.w p ks)from I.Cb p _ M);refine Zu (I.ok.hd L) S n λh' tk d D out ns c N J O hi j B=>?_;have z:(ns.map V.int).length<=sizeLine:=by rw[xH,j.length_eq];exact nV n
 have U:H D=none:=I.Cb.fresh J;have Y:Inv X pins σ (upd H D (.lst (ns.map V.int))) {s with heap:=h',drawn:=d,toks:=tk}:=by have I1:Inv X pins σ H {s with drawn:=d}:=⟨I.ok,I.os,I.bare,I.base,I.loc,I.cell,I.free,I.Hr,I.pin,I.Cb,I.len⟩;exact I1.laid (t':=tk) (h':=h') (a:=D) (o:=.lst (ns.map V.int)) N J ⟨z,out.toList,c,YN hi,O⟩
 exact⟨.ref D,_,Y,rfl,q D ns U j B⟩
end
noncomputable abbrev vn(n:Nat):V:=V.int (n:Int)
abbrev Bs(l:List Nat):List V:=l.map vn
def LI(H:Hp)(a:Addr)(l:List Nat):Prop:=H a=some (.lst (Bs l))
noncomputable def Bl(Mu:List Addr)(H:Hp):Hp:=λx=>if x∈Mu then none else H x
noncomputable def fresh(H H':Hp):Hp:=λx=>if(H x).isSome=true then none else H' x
theorem Fv(h:x∈Mu):Bl Mu H x=none:=xQ h
theorem As(h:x∉Mu):Bl Mu H x=H x:=xJ h
theorem Af(Mu:List Addr)(H:Hp):AN (Bl Mu H) H:=λb o h=>by
 by_cases j:b∈Mu
 .rw[Fv j]at h;cases h
 .rw[As j]at h;exact h
theorem AN.Bl(s:AN H H'):AN (Bl Mu H) (Bl Mu H'):=λb o h=>by
 by_cases j:b∈Mu
 .rw[Fv j]at h;cases h
 .rw[As j]at h⊢;exact s b o h
theorem Ga(h:x∈Mu):CE.Bl Mu (upd H x o)=CE.Bl Mu H:=by
 funext b;by_cases j:b∈Mu
 .rw[Fv j,Fv j]
 .rw[As j,As j,AG (λe=>j (by rw[e];exact h))]
theorem Aw(H H':Hp):AN (fresh H H') H':=λb o h=>by
 unfold fresh at h;split at h
 .cases h
 .exact h
theorem Ay(h:H b=none):fresh H H' b=H' b:=by unfold fresh;rw[h];rfl
theorem Cj(h:H b=some o):fresh H H' b=none:=by unfold fresh;rw[h];rfl
theorem Wx(h:∀b∈Mu,H b≠none):AN (fresh H H') (CE.Bl Mu H'):=λb o e=>by
 have j:b∉Mu:=λq=>by
  cases z:H b with
  |none=>exact h b q z
  |some u=>rw[Cj z]at e;cases e
 rw[As j];exact Aw H H' b o e
theorem OJ(s:AN H' j):AN (fresh H H') (fresh H j):=λb o e=>by
 unfold fresh at e⊢;split at e
 .cases e
 .rename_i h;rw[xJ h];exact s b o e
theorem AI(h:H p=none):AN H (upd H p o):=λb u e=>by rw[AG (AH e h)];exact e
theorem LI.mono(h:LI H a l)(s:AN H H'):LI H' a l:=s _ _ h
theorem LI.sq{K:PySem.W.Frag}{H:Hp}{a:Addr}{l:List Nat}(h:LI H a l):Ah K H a (Bs l):=Ah.of h
inductive B5(H:Hp)(a:Addr)(ps:List (List Nat)):Prop
 |mk (as:List Addr) (_:H a=some (.lst (as.map V.ref))) (_:Paired (LI H) as ps)
theorem Paired.BO{j n:Type}{F G:j->n->Prop}(f:∀a b,F a b->G a b){l:List j}{m:List n}(h:Paired F l m):Paired G l m:=Paired.sI h f
theorem B5.mono(h:B5 H a ps)(s:AN H H'):B5 H' a ps:=by obtain⟨as,h1,h2⟩:=h;exact⟨as,s _ _ h1,Paired.BO (λ_ _ q=>LI.mono q s) h2⟩
theorem AR{j n:Type}{F:j->n->Prop}{l:List j}{m:List n}(h:Paired F l m):l.length=m.length:=zF h
theorem BR{j n:Type}{F:j->n->Prop}{l:List j}{m:List n}{a:j}{b:n}(g:Paired F l m)(h:F a b):Paired F (l++[a]) (m++[b]):=by
 induction g with
 |nil=>exact .cons h .nil
 |cons r t q=>exact .cons r q
inductive wo{α β:Type}(F:α->β->Prop)(m:List β)(i:Nat)(a:α):Prop
 |mk (b:β) (_:m[i]?=some b) (_:F a b)
inductive wB{α β:Type}(F:α->β->Prop)(l:List α)(i:Nat)(b:β):Prop
 |mk (a:α) (_:l[i]?=some a) (_:F a b)
inductive oP{α:Type}(f:α->V)(l:List α)(i:Nat)(x:V):Prop
 |mk (n:α) (_:l[i]?=some n) (_:x=f n)
theorem Av{j n:Type}{F:j->n->Prop}{l:List j}{m:List n}(i:Nat)(a:j)(p:Paired F l m)(h:l[i]?=some a):wo F m i a:=by
 induction p generalizing i with
 |nil=>cases h
 |cons r t q=>
  cases i with
  |zero=>cases h;exact⟨_,rfl,r⟩
  |succ i=>obtain⟨b,h1,h2⟩:=q i h;exact⟨b,h1,h2⟩
theorem Bu{n j:Type}{F:n->j->Prop}{l:List n}{m:List j}(i:Nat)(b:j)(p:Paired F l m)(h:m[i]?=some b):wB F l i b:=by
 induction p generalizing i with
 |nil=>cases h
 |cons r t q=>
  cases i with
  |zero=>cases h;exact⟨_,rfl,r⟩
  |succ i=>obtain⟨b,h1,h2⟩:=q i h;exact⟨b,h1,h2⟩
theorem Y4{j:Type}{f:j->V}{l:List j}{i:Nat}{x:V}(h:(l.map f)[i]?=some x):oP f l i x:=by rw[xh]at h;obtain⟨n,h1,h2⟩:=xu.mp h;exact⟨n,h1,h2.symm⟩
theorem FN{l:List Nat}{i:Nat}{x:V}(h:(Bs l)[i]?=some x):oP vn l i x:=Y4 h
theorem BK{l:List Addr}{i:Nat}{x:V}(h:(l.map V.ref)[i]?=some x):oP V.ref l i x:=Y4 h
theorem ints_get{l:List Int}{i:Nat}{x:V}(h:(l.map V.int)[i]?=some x):oP V.int l i x:=Y4 h
theorem Mf(h:n<=1000000):n<=sizeLine:=xr h (by rw[AAL];decide)
theorem Az(h:n<=1000000):n<sizeLine:=AAj h (by rw[AAL];decide)
section
variable{X:Cx}
theorem gi(h:∃t,X.mg x=some (.int n t))(j:Gl X x:=by rfl)(hd:(x==("__debug__":Str))=false:=by decide):PE X (.Name x pos) (tC (.int n)):=
 let⟨t,e⟩:=h
 CF j e ⟨t,rfl⟩ hd
theorem W4:bootBuiltins "all"=some (.builtin "all"):=by decide+kernel
theorem Qt:bootBuiltins "sum"=some (.builtin "sum"):=by decide+kernel
theorem eE:bootBuiltins "list"=some (.type "list"):=by decide+kernel
end
theorem EM(a b:Nat):Builtin.bitAnd (a:Int) (b:Int)=((a &&& b:Nat):Int):=by have:=xi a;unfold Builtin.bitAnd;rfl
theorem Ig(a b:Nat):Builtin.bitOr (a:Int) (b:Int)=((a||| b:Nat):Int):=by rw[sR.lh (zm a) (zm b)];simp
theorem L6{K:PySem.W.Frag}{a:Addr}{xs:List V}{g:TG}{tb:TS}{D:Ends}{σ:L2.St}{H:Hp}(Pv:Nat->L2.St->Hp->Prop)(I:Pv 0 σ H)(J:∀i σ H,i<=xs.length->Pv i σ H->Ah K H a xs)
  (L:∀i x σ H T,xs[i]?=some x->Pv i σ H->H T=none->g (.ref T) σ (upd H T (.tup [.int (i:Nat),x])) λj H2=>tb {D with nx:=Pv (i+1),ct:=Pv (i+1),bk:=D.nx} j H2) (hd:∀σ H,Pv xs.length σ H->D.nx σ H):
  ∃W:Nat->Nat->L2.St->Hp->Prop,(∃m,W 0 m σ H)/\∀i m σ H,W i m σ H->
   ((tW K a).stop i H/\D.nx σ H)\/((tW K a).go i H/\∃N:L2.St->Hp->Prop,(∀n H',N n H'->∃B,B<m/\W (i+1) B n H')/\∀x H',(tW K a).jz i H x H'->g x σ H' λj H2=>tb {D with nx:=N,ct:=N,bk:=D.nx} j H2):=by
 refine⟨λi m σ H=>m=xs.length - i/\i<=xs.length/\Pv i σ H,⟨xs.length,by simp,xi _,I⟩,?_⟩;rintro i m σ H ⟨rfl,hi,p⟩;have q:=J i σ H hi p;by_cases z:i<xs.length
 .refine .inr ⟨⟨xs,xs[i],q,by simp[z]⟩,Pv (i+1),λn H' M=>⟨xs.length - (i+1),Om,rfl,z,M⟩,λx H' y=>?_⟩;obtain⟨T,O,e1,U,Y,y⟩:=y;subst e1 Y;exact L i O σ _ T (y xs q) p U
 .have e:i=xs.length:=by lia
  subst e;exact .inl ⟨⟨xs,q,xZ _⟩,hd σ H p⟩
section
variable{tc:TT}{t u v:TS}{D:Ends}{σ:L2.St}{H:Hp}
theorem Ca(b:Bool)(h:∀Q:Bool->Hp->Prop,Q b H->tc σ H Q)(j:b=true->t D σ H)(n:b=false->u D σ H):jo tc t u D σ H:=by
 refine h _ ?_;cases b with
 |true=>exact EG (j rfl)
 |false=>exact ED (n rfl)
theorem lK(b:Bool)(h:∀Q:Bool->Hp->Prop,Q b H->tc σ H Q)(j:b=true->t {D with nx:=v D} σ H)(n:b=false->u {D with nx:=v D} σ H):YZ (jo tc t u) v D σ H:=Ca b h j n
theorem AU(b:Bool)(h:∀Q:Bool->Hp->Prop,Q b H->tc σ H Q)(j:b=true->t {D with nx:=v D} σ H)(n:b=false->v D σ H):YZ (jo tc t kJ) v D σ H:=Ca b h j n
theorem oj(b:Bool)(h:∀Q:Bool->Hp->Prop,(∀H',AN H H'->Q b H')->tc σ H Q)(j:b=true->∀H',AN H H'->t D σ H')(n:b=false->∀H',AN H H'->u D σ H'):jo tc t u D σ H:=by
 refine h _ λH' s=>?_;cases b with
 |true=>exact EG (j rfl H' s)
 |false=>exact ED (n rfl H' s)
theorem Iq(b:Bool)(h:∀Q:Bool->Hp->Prop,(∀H',AN H H'->Q b H')->tc σ H Q)(j:b=true->∀H',AN H H'->t {D with nx:=v D} σ H')(n:b=false->∀H',AN H H'->v D σ H'):YZ (jo tc t kJ) v D σ H:=oj b h j n
end
end CE
namespace CE
theorem JH(h:p i=true):(List.range (i+1)).filter p=(List.range i).filter p++[i]:=by rw[zr,yV,zH h,ABJ]
theorem Gh(h:¬p i=true):(List.range (i+1)).filter p=(List.range i).filter p:=by rw[zr,yV,zI h,ABJ,yJ]
theorem B4(l:List Nat)(n:Nat):Bs (l++[n])=Bs l++[vn n]:=by unfold Bs;rw[xX];rfl
theorem Am(l:List Nat):(Bs l).length=l.length:=xH ..
end CE
namespace CE
open PySem PySem.Spec PyProof.Rows L2
noncomputable def fw(a:Addr)(o:Obj):HO:=.ext λh=>h.get? a=some o
theorem T5{P:Program}{w:World}{H:Hp}{h:Heap}{a:Addr}{o:Obj}(e:h.get? a=some o):CC P w H h a (fw a o):=⟨e,⟨o,e⟩,λ_ _ z k=>k o z⟩
theorem YJ{P:Program}{w:World}{H:Hp}{h:Heap}{a:Addr}{o:Obj}(x:CC P w H h a (fw a o)):h.get? a=some o:=x.1
noncomputable abbrev jh:Nat->Bool:=λ_=>false
def t9(a b:Int×Int):Prop:=a.1<b.1\/(a.1=b.1/\a.2<=b.2)
noncomputable def qY(k:Int×Int):List (Int ⊕ List Nat):=[Sum.inl k.1,Sum.inl k.2]
theorem oU(h:lexLt itemOrd (qY b) (qY a)=false):t9 a b:=by
 unfold qY at h;obtain⟨h1,h2⟩:=lex_false.mp h;have h1:decide (b.1<a.1)=false:=h1;have h1:=xc h1;rcases h2 with h2|h2
 .have h2:decide (a.1<b.1)=true:=h2;exact .inl (xI h2)
 .obtain⟨j,_⟩:=lex_false.mp h2;have j:decide (b.2<a.2)=false:=j;have j:=xc j;by_cases e:a.1<b.1
  .exact .inl e
  .exact .inr ⟨Om,Om⟩
inductive ZL(h:Heap)(t:Addr)(k:Int×Int):Prop
 |mk (u v:Tok) (n:Nat) (o:Obj) (_:h.get? t=some o) (_:o.cls=.type "tuple") (_:o.data=.seq #[.int k.1 u,.int k.2 v] n)
theorem ZL.key(z:ZL h t k):PyProof.Rows.G.tupKeyC h jh (.ref t)=some (qY k):=by
 obtain⟨u,v,n,o,j,q,hd⟩:=z;unfold PyProof.Rows.G.tupKeyC;have h1:PyProof.Rows.G.isTupObj h (.ref t)=true:=by unfold PyProof.Rows.G.isTupObj;simp only[j,q];decide
 rw[xQ h1];unfold tupKey;simp only[j,hd];rfl
theorem ZL.of(z:ZL h t k):∃f,TupOf h jh (.ref t) f:=by obtain⟨u,v,n,o,j,B,hd⟩:=z;exact⟨.int k.1 u,t,o,_,n,rfl,j,B,hd,rfl,λ_=>⟨_,_,rfl⟩,λq=>by cases q⟩
theorem ou(p:Paired (ZL h) n ks):∃fs,TupsOf h jh (n.map Value.ref) fs:=by
 induction p with
 |nil=>exact⟨[],.nil⟩
 |cons z r q=>obtain⟨f,B⟩:=z.of;obtain⟨fs,j⟩:=q;exact⟨f::fs,.cons B j⟩
theorem one_le(h:n<=1000):n<=sizeLine:=by rw[AAL];lia
section
variable{X:Cx}{k:Nat}{f:Addr}{fd:FuncData}{ps:List Str}{sp:Sp}
theorem nL(F:IV X.prog X.w X.K X.mg X.base kC k f fd ps sp)(n:DI (k+2) X.A)(q:Binds X.K fd ps [])
  (I:Inv X pins σ H s) (r:RelV v u) (h:sp [v] H Q E0):wpAny (model X.prog X.w) X.A.in1.in1 (call (.ref f) [u]) (EP X pins σ Q) (λ_ _=>False) s:=by
 have z:Vals [v] [u]:=.cons r .nil;have B:([u]++[]).length=ps.length:=by have h1:=F.len _ _ _ _ h;have h2:([u]++([]:List Value)).length=[v].length:=rfl;rw[h2];exact h1
 refine wpAny_call (zl (F.run X.A.in1.in1 X.stack s H ⟨[u],[]⟩ ([u]++[]) [v] Q E0 n.in1.in1 I.rm.in1.in1 (q s [u] I.WL B) z h) λr s' j=>?_);cases r with
 |error e=>exact j
 |ok J=>
  cases J with
  |ret u=>exact I.after j
  |next=>exact False.elim j
  |brk=>exact False.elim j
  |cont=>exact False.elim j
inductive Jj(ks:List (Int×Int))(xs ys:List V):Prop
 |mk (qs:List ((Int×Int)×V)) (_:qs.Perm (ks.zip xs)) (_:ys=qs.map (·.2)) (_:qs.Pairwise λa b=>t9 a.1 b.1)
theorem Z7(j:List Addr)(its:List Value):((j.map Value.ref).toArray.zip its.toArray).toList=(j.map Value.ref).zip its:=by simp
theorem jw(hz:Paired (ZL h) L ks)(hv:Vals xs its)(M:ks.length=xs.length)
  (N:a.Perm ((L.map Value.ref).toArray.zip its.toArray)) (O:SortedToK (PyProof.Rows.G.tupKindC h jh) a a.size):∃ys:List V,Vals ys (a.map (·.2)).toList/\Jj ks xs ys:=by
 have n:=hv.length;have B:=AR hz;have I:a.toList.Perm ((L.map Value.ref).zip its):=by rw[<-Z7];exact Array.perm_iff_toList_perm.mp N
 have:∃qs:List ((Int×Int)×V),qs.Perm (ks.zip xs)/\Paired (λ(q:(Int×Int)×V)(p:Keyed)=>RelV q.2 p.2/\PyProof.Rows.G.tupKeyC h jh p.1=some (qY q.1)) qs a.toList:=by
  have base:Paired (λ(q:(Int×Int)×V)(p:Keyed)=>RelV q.2 p.2/\PyProof.Rows.G.tupKeyC h jh p.1=some (qY q.1)) (ks.zip xs) ((L.map Value.ref).zip its):=by
   clear I O N n B
   induction hz generalizing xs its with
   |nil=>
    cases xs with
    |nil=>exact .nil
    |cons x xs=>simp at M
   |cons z r J=>
    cases hv with
    |nil=>simp at M
    |cons r1 U=>exact .cons ⟨r1,z.key⟩ (J U (by simpa using M))
  generalize ks.zip xs=l1 at base;generalize(L.map Value.ref).zip its=l2 at base I;clear O N M n B;generalize a.toList=l3 at I
  induction I generalizing l1 with
  |nil=>cases base;exact⟨[],.nil,.nil⟩
  |cons x p J=>
   cases base with
   |cons r t=>obtain⟨qs,h1,h2⟩:=J _ t;exact⟨_::qs,h1.cons _,.cons r h2⟩
  |swap x y l=>
   cases base with
   |cons r t=>cases t with
    |cons U t2=>exact⟨_,.swap _ _ _,.cons U (.cons r t2)⟩
  |trans p1 p2 Y aa=>obtain⟨qs,h1,h2⟩:=aa _ base;obtain⟨ab,h3,h4⟩:=Y _ h2;exact⟨ab,h3.trans h1,h4⟩
 obtain⟨qs,h1,h2⟩:=this;refine⟨qs.map (·.2),?_,qs,h1,rfl,?_⟩
 .rw[Array.toList_map];clear O N I h1;generalize a.toList=l3 at h2
  induction h2 with
  |nil=>exact .nil
  |cons r _ J=>exact .cons r.1 J
 .rw[AAe];intro i j hi hj ae;have af:qs.length=a.size:=by rw[AR h2,zM]
  have q:=O i j (AAP ae) (by rw[<-af];exact hj);have key:∀m(hm:m<qs.length),KK (PyProof.Rows.G.tupKindC h jh) a m=qY qs[m].1:=λm hm=>by
   obtain⟨p,e1,_,e3⟩:=Av m qs[m] h2 (xW hm);have ag:a[m]?=some p:=by rw[<-zC];exact e1
   unfold KK;rw[ag];show((PyProof.Rows.G.tupKeyC h jh p.1).getD [])=_;rw[e3];rfl
  rw[key i hi,key j hj]at q;exact oU q
section
variable{pins:List (Addr×Obj)}{σ:L2.St}{H0:Hp}{a kS:Addr}{e1:Nat}{its:List Value}{xs:List V}{ks:List (Int×Int)}{Q:VK}{A:Around}
structure uu(X:Cx)(pins:List (Addr×Obj))(σ:L2.St)(H0:Hp)(a kS:Addr)(e1:Nat)(ks:List (Int×Int))(i:Nat)(s:Shared)(H:Hp)(ts:List Addr)(e:Nat):Prop where
 inv:Inv X pins σ H s
 same:AN H0 H
 oa:H a=some (fw a (seqObj "list" #[] e1))
 ok:H kS=some (fw kS (seqObj "list" (ts.map Value.ref).toArray e))
 pr:Paired (λt(z:Int×Int)=>H t=some (.tup [.int z.1,.int z.2])) ts (ks.take i)
theorem iO{P:Program}{w:World}{H:Hp}{h:Heap}(ok:Kw P w H h){t:Addr}{z:Int×Int}(e:H t=some (.tup [.int z.1,.int z.2])):ZL h t z:=by
 obtain⟨_,its,r,o,j,q,n,hd⟩:=ok t _ e;cases r with
 |cons B I=>
  cases I with
  |cons J L=>cases L;obtain⟨u,rfl⟩:=B;obtain⟨v,rfl⟩:=J;exact⟨u,v,n,o,j,q,hd⟩
theorem Te{s:Shared}{H:Hp}{L:List Addr}{e i:Nat}{E:Value->Shared->Prop}{st:SortSt}(M:uu X pins σ H0 a kS e1 ks i s H L e)(n:kS≠a)(na:H0 a=none)(nk:H0 kS=none)(hi:ks.length<=i)(hv:Vals xs its)(hl:ks.length=xs.length)(hZ:xs.length<=1000)
  (hp:(arrOf st).Perm ((L.map Value.ref).toArray.zip its.toArray)) (hs:SortedToK (PyProof.Rows.G.tupKindC s.heap jh) (arrOf st) (arrOf st).size) (hf:failedOf st=none)
  (q:∀H2 ys,AN H0 H2->H2 a=some (.lst ys)->Jj ks xs ys->Q (.ref a) H2):
  wpAny (model X.prog X.w) A (ksk_tail a false e1 (.ref kS) st) (λr s'=>r=.done (.ret .none)/\EP X pins σ Q (.ref a) s') E s:=by
 have hk:=YJ (M.inv.Cb kS _ M.ok);have ha:=YJ (M.inv.Cb a _ M.oa);have O:Paired (ZL s.heap) L ks:=by have h1:=M.pr;rw[yT hi]at h1;exact Paired.BO (λ_ _ z=>iO M.inv.Cb z) h1
 obtain⟨ys,B,hsz⟩:=jw O hv hl hp hs;have hn:(arrOf st).size=xs.length:=by rw[hp.size_eq];simp;rw[AR O,hl,<-hv.length];simp
 have U:ys.length=xs.length:=by rw[B.length,zM,Array.size_map,hn]
 have k1:∀b u,b≠kS->s.heap.get? b=some u->(s.heap.update kS (Obj.mapSeq λ_=>(#[]:Array Value))).get? b=some u:=λb u Y z=>by rw[AAD _ _ _ _ Y];exact z
 obtain⟨N,I⟩:∃N,(s.heap.update kS (Obj.mapSeq λ_=>(#[]:Array Value))).get? kS=some (seqObj "list" #[] N):=⟨_,ABM hk λ_=>(#[]:Array Value)⟩;have I1:Inv X pins σ (upd H kS (fw kS (seqObj "list" #[] N))) {s with heap:=s.heap.update kS (Obj.mapSeq λ_=>(#[]:Array Value))}:=M.inv.write (t':=s.toks) (by rw[M.ok];trivial) (.inl rfl) k1 ⟨_,I⟩ (T5 I);have j:=k1 a _ (x8 n) ha;obtain⟨c2,J⟩:∃c2,((s.heap.update kS (Obj.mapSeq λ_=>(#[]:Array Value))).update a (Obj.mapSeq λ_=>(arrOf st).map (·.2))).get? a=some (seqObj "list" ((arrOf st).map (·.2)) c2):=⟨_,ABM j λ_=>(arrOf st).map (·.2)⟩;have k2:∀b u,b≠a->(s.heap.update kS (Obj.mapSeq λ_=>(#[]:Array Value))).get? b=some u->((s.heap.update kS (Obj.mapSeq λ_=>(#[]:Array Value))).update a (Obj.mapSeq λ_=>(arrOf st).map (·.2))).get? b=some u:=λb u Y z=>by rw[AAD _ _ _ _ Y];exact z
 have I2:Inv X pins σ (upd (upd H kS (fw kS (seqObj "list" #[] N))) a (.lst ys)) {s with heap:=(s.heap.update kS (Obj.mapSeq λ_=>(#[]:Array Value))).update a (Obj.mapSeq λ_=>(arrOf st).map (·.2))}:=by
  refine I1.write (t':=s.toks) (by rw[AG (x8 n),M.oa];trivial) (.inl rfl) k2 ⟨_,J⟩ ⟨?_,((arrOf st).map (·.2)).toList,c2,B,?_⟩
  .rw[U];exact one_le hZ
  .rw[Array.toArray_toList];exact J
 have aa:L.length<=1000:=by rw[AR O];lia
 unfold ksk_tail
 try dsimp only
 refine xG (listUpdate_at hk rfl ?_ (by simp;exact one_le aa) (xi _));refine xG (ACE ?_);refine xG (seqEpoch_at j rfl ?_);refine xG (listUpdate_at j rfl ?_ (xi _) (xr (by simp[hn]) (AAt (one_le hZ))));rw[hf];simp only[bne_self_eq_false,ABW,ABu];refine xU ⟨rfl,.ref a,_,I2,rfl,q _ ys (λb o z=>?_) AB hsz⟩;rw[AG (λw1=>by rw[w1,na]at z;cases z),AG (λw1=>by rw[w1,nk]at z;cases z)];exact M.same _ _ z
end
end
section
variable{X:Cx}{pins:List (Addr×Obj)}{σ:L2.St}{H0:Hp}{a kS:Addr}{e1:Nat}{its:List Value}{xs:List V}{ks:List (Int×Int)}{Q:VK}{A:Around}
theorem jD(M:uu X pins σ H0 a kS e1 ks i s H B e)(I:kS≠a)(na:H0 a=none)(nk:H0 kS=none)(hi:ks.length<=i)(O:Vals xs its)(hl:ks.length=xs.length)(hZ:xs.length<=1000)
  (q:∀H2 ys,AN H0 H2->H2 a=some (.lst ys)->Jj ks xs ys->Q (.ref a) H2):
  wpAny (model X.prog X.w) A (ksk_end a false its.toArray e1 (.ref kS) (B.map Value.ref).toArray) (λr s'=>r=.done (.ret .none)/\EP X pins σ Q (.ref a) s') E s:=by
 have U:Paired (ZL s.heap) B ks:=by have h1:=M.pr;rw[yT hi]at h1;exact Paired.BO (λ_ _ z=>iO M.inv.Cb z) h1
 have ae:=O.length;have af:=AR U;have J:((B.map Value.ref).toArray.zip its.toArray).size=its.length:=by simp;lia
 unfold ksk_end
 try dsimp only
 rw[xJ xy];by_cases h2:its.toArray.size<2
 .rw[xQ h2,xQ h2];refine xG (xU ?_);rw[StateT.run_pure];refine xG (xU ?_)
  try dsimp only
  refine Te (st:=SortSt.mk' general' ((B.map Value.ref).toArray.zip its.toArray) #[] 7 none) M I na nk hi O hl hZ (Array.Perm.refl _) ?_ rfl q;intro i j ag Y;have aa:j< ((B.map Value.ref).toArray.zip its.toArray).size:=Y;rw[J]at aa;rw[x1]at h2;have:i=j:=by lia
  subst this;exact KeyOrd.kle_refl _
 .rw[xJ h2,xJ h2];rw[x1]at h2;obtain⟨fs,L⟩:=ou U;have ab:KeysOf (PyProof.Rows.G.tupKindC s.heap jh) ((B.map Value.ref).toArray.zip its.toArray):=by
   intro p N;rw[Z7]at N;obtain⟨x,y⟩:=p;obtain⟨t,ht,rfl⟩:=x5.mp (ABC N).1;obtain⟨j,Y⟩:=y6 ht;obtain⟨z,_,hz⟩:=Av j t U Y;exact⟨_,hz.key⟩
  refine xG (tup_kind (shape:=jh) (by rw[PyProof.Rows.G.TupsOf.length L,xH];lia) L ?_)
  try dsimp only
  refine xG (y4 (PyProof.Rows.G.wpS_sortRunsSt (κ:=PyProof.Rows.G.tupKindC s.heap jh) (kd:=tuples' true) (a₀:=(B.map Value.ref).toArray.zip its.toArray) (st:=SortSt.mk' (tuples' true) ((B.map Value.ref).toArray.zip its.toArray) #[] 7 none)
   (Q:=λ_ n=>(arrOf n).Perm ((B.map Value.ref).toArray.zip its.toArray)/\failedOf n=none/\SortedToK (PyProof.Rows.G.tupKindC s.heap jh) (arrOf n) ((B.map Value.ref).toArray.zip its.toArray).size)
   (PyProof.Rows.G.tupC_ltAt true (PyProof.Rows.G.KeepsTups.refl _)) ab ⟨Array.Perm.refl _,rfl,rfl⟩ rfl (Stable.refl _) (by rw[J];lia) λn a1 a2 a3 _=>⟨a1,a2,a3⟩) ?_ λ_ _ e=>e)
  rintro⟨⟨⟩,n⟩ s' ⟨rfl,N,hf,hs⟩
  try dsimp only
  exact Te M I na nk hi O hl hZ N (by rw[N.size_eq];exact hs) hf q
end
section
variable{X:Cx}{k:Nat}{f:Addr}{fd:FuncData}{ps:List Str}{sp:Sp}{pins:List (Addr×Obj)}{σ:L2.St}{H0:Hp}{a kS:Addr}{e1:Nat}{its:List Value}{xs:List V}{ks:List (Int×Int)}{Q:VK}
theorem pC{vs:List V}{us:List Value}{i:Nat}{u:Value}(p:Vals vs us)(h:us[i]?=some u):∃v,vs[i]?=some v/\RelV v u:=by
 induction p generalizing i with
 |nil=>cases h
 |cons r t j=>
  cases i with
  |zero=>cases h;exact⟨_,rfl,r⟩
  |succ i=>exact j h
theorem fx(F:IV X.prog X.w X.K X.mg X.base kC k f fd ps sp)(hr:DI (k+2) X.A)(hb:Binds X.K fd ps [])(M:uu X pins σ H0 a kS e1 ks 0 s H [] 0)(N:kS≠a)(na:H0 a=none)(nk:H0 kS=none)(hv:Vals xs its)(hl:ks.length=xs.length)(hZ:xs.length<=1000)
  (O:∀(i:Nat)(x:V)(z:Int×Int),xs[i]?=some x->ks[i]?=some z->∀H',AN H0 H'->sp [x] H' (λv H2=>∃t,v=.ref t/\AN H' H2/\H2 t=some (.tup [.int z.1,.int z.2])) E0)
  (q:∀H2 ys,AN H0 H2->H2 a=some (.lst ys)->Jj ks xs ys->Q (.ref a) H2):
  wpAny (model X.prog X.w) X.A.in1.in1 (ksk_rest a (.ref f) false its.toArray e1 (.ref kS)) (λr s'=>r=.done (.ret .none)/\EP X pins σ Q (.ref a) s') E s:=by
 have af:=hv.length;unfold ksk_rest;refine xG (AAm ?_)
 first
  |rw[List.forIn_toArray]
  |(rw[<-Array.forIn_toList];simp only[List.toList_toArray])
  |rw[<-Array.forIn_toList]
 refine xG (ksk_fold (λi s'=>∃H' J e,uu X pins σ H0 a kS e1 ks i s' H' J e) its 0 s ⟨H,[],0,M⟩ ?step ?done)
 case step=>
  rintro j x s' hx ⟨H',J,e,B⟩;simp only[Nat.zero_add]at B⊢;obtain⟨v,U,aa⟩:=pC hv hx;have hj:j<ks.length:=by have:=(xP.mp U).1;lia
  have hz:ks[j]?=some ks[j]:=xW hj;generalize ks[j]=z at hz;refine xG (AAF (y4 (nL F hr hb B.inv aa (O j v z U hz H' B.same)) (λu s2 he=>?_) λ_ _ hF=>hF.elim));obtain⟨w',H2,I2,ab,t,rfl,I,ht⟩:=he;obtain rfl:u=Value.ref t:=ab
  try dsimp only
  have Y:=YJ (I2.Cb kS _ (I _ _ B.ok));have ae:J.length=j:=by rw[AR B.pr,xt];lia
  obtain⟨c2,L⟩:∃c2,(s2.heap.update kS (Obj.mapSeq (·.push (Value.ref t)))).get? kS=some (seqObj "list" ((J.map Value.ref).toArray.push (.ref t)) c2):=⟨_,ABM Y (·.push (.ref t))⟩;refine xG (listUpdate_at Y rfl ?_ (by simp;exact one_le Om) (xr (by simp[ae]) (AAt (one_le (n:=j+1) Om))));have e9:(J.map Value.ref).toArray.push (Value.ref t)=((J++[t]).map Value.ref).toArray:=by simp
  rw[e9]at L;have tk:t≠kS:=λz=>by rw[z,I _ _ B.ok]at ht;cases ht
  refine xU ⟨rfl,upd H2 kS (fw kS (seqObj "list" ((J++[t]).map Value.ref).toArray c2)),J++[t],c2,?_,λb o z=>?_,?_,AB,?_⟩
  .exact I2.write (t':=s2.toks) (by rw[I _ _ B.ok];trivial) (.inl rfl) (λb u hb z=>by rw[AAD _ _ _ _ hb];exact z) ⟨_,L⟩ (T5 L)
  .rw[AG (λw1=>by rw[w1,nk]at z;cases z)];exact I _ _ (B.same _ _ z)
  .rw[AG (x8 N)];exact I _ _ B.oa
  .rw[List.take_add_one,hz];refine BR (Paired.BO (λy w1 hy=>?_) B.pr) ((AG tk).trans ht);have yk:y≠kS:=λz=>by rw[z,B.ok]at hy;cases hy
   exact(AG yk).trans (I _ _ hy)
 case done=>
  rintro s' ⟨H',J,e,B⟩;have hk:=YJ (B.inv.Cb kS _ B.ok)
  try dsimp only
  refine xG (listItems_at hk rfl ?_);exact jD B N na nk Om hv hl hZ q
theorem Yl(F:IV X.prog X.w X.K X.mg X.base kC k f fd ps sp)(hr:DI (k+2) X.A)(O:Binds X.K fd ps [])(I:Inv X pins σ H0 s)(hx:Ah X.K H0 l xs)(hl:ks.length=xs.length)(hZ:xs.length<=1000)
  (M:∀(i:Nat)(x:V)(z:Int×Int),xs[i]?=some x->ks[i]?=some z->∀H',AN H0 H'->sp [x] H' (λv H2=>∃t,v=.ref t/\AN H' H2/\H2 t=some (.tup [.int z.1,.int z.2])) E0)
  (q:∀D H2 ys,AN H0 H2->H0 D=none->H2 D=some (.lst ys)->Jj ks xs ys->Q (.ref D) H2):
  wpAny (model X.prog X.w) X.A (call (.builtin "sorted") [.ref l] [(Str.ofString "key",.ref f)]) (EP X pins σ Q) X.xe s:=by
 obtain⟨its,hv,U,_⟩:=I.list hx;have af:=hv.length;refine call_function_entry_kw kind_sorted plain_sorted entry_sorted (ksk_s1 _ _) ?_;unfold Builtin.«sorted»;refine xG (m:=checkCount "sorted" 1 1 _) (xU ?_);refine xG (collect_list (vs:=its) U.isList ?_ (one_le Om));refine xG (wpAny_newList ?_ (one_le Om));have hsz:((s.heap.push (seqObj "list" #[] 0)).update s.heap.objs.size (Obj.mapSeq (· ++its.toArray))).objs.size=s.heap.objs.size+1:=by rw[Heap.size_update,size_push']
 have j:(((s.heap.push (seqObj "list" #[] 0)).update s.heap.objs.size (Obj.mapSeq (· ++its.toArray))).push (seqObj "list" its.toArray 0)).get? (s.heap.objs.size+1)=some (seqObj "list" its.toArray 0):=by rw[<-hsz];exact xf _ rfl
 have keep:∀b o,s.heap.get? b=some o->(((s.heap.push (seqObj "list" #[] 0)).update s.heap.objs.size (Obj.mapSeq (· ++its.toArray))).push (seqObj "list" its.toArray 0)).get? b=some o:=λb o q=>by have B:b<s.heap.objs.size:=xj q;rw[Heap.get?_push_ne _ _ _ (by rw[hsz];exact x6 (yW B)),AAD _ _ _ _ (x6 B),Heap.get?_push_ne _ _ _ (x6 B)];exact q
 show wpAny _ _ _ _ _ {s with heap:=((s.heap.push (seqObj "list" #[] 0)).update s.heap.objs.size (Obj.mapSeq (· ++its.toArray))).push (seqObj "list" its.toArray 0)};rw[hsz];have na:H0 (s.heap.objs.size+1)=none:=I.Cb.fresh (z0 _);have Y:Inv X pins σ (upd H0 (s.heap.objs.size+1) (fw (s.heap.objs.size+1) (seqObj "list" its.toArray 0))) {s with heap:=((s.heap.push (seqObj "list" #[] 0)).update s.heap.objs.size (Obj.mapSeq (· ++its.toArray))).push (seqObj "list" its.toArray 0)}:=
  I.laid (t':=s.toks) keep (z0 _) (T5 j)
 generalize aa:({s with heap:=((s.heap.push (seqObj "list" #[] 0)).update s.heap.objs.size (Obj.mapSeq (· ++its.toArray))).push (seqObj "list" its.toArray 0)}:Shared)=n at Y;have j:n.heap.get? (s.heap.objs.size+1)=some (seqObj "list" its.toArray 0):=by rw[<-aa];exact j
 generalize s.heap.objs.size+1=a at na Y j;refine xG (zQ (wpAny_call_entry_kw slot_list_sort ⟨_,j,rfl⟩ entry_list_sort ?body (ksk_l1 _ _)))
 case body=>
  show wpAny (model X.prog X.w) X.A.in1.in1 (Builtin.«list.sort» ⟨[.ref a],[(Str.ofString "key",.ref f)]⟩) _ _ _;rw[ksk_t1];unfold ksk_tree;have ha:a<n.heap.objs.size:=xj j;obtain⟨e1,J⟩:∃e1,(n.heap.update a (Obj.mapSeq λ_=>(#[]:Array Value))).get? a=some (seqObj "list" #[] e1):=⟨_,ABM j λ_=> #[]⟩;have ag:AN H0 (upd H0 a (fw a (seqObj "list" its.toArray 0))):=AI na;refine xG (listItems_at j rfl ?_);refine xG (listUpdate_at j rfl ?_ (by rw[x1];exact one_le Om) (xi _));have I2:Inv X pins σ (upd (upd H0 a (fw a (seqObj "list" its.toArray 0))) a (fw a (seqObj "list" #[] e1))) {n with heap:=n.heap.update a (Obj.mapSeq λ_=>(#[]:Array Value))}:=
   Y.write (t':=n.toks) (by rw[AB];trivial) (.inl rfl) (λb u O z=>by rw[AAD _ _ _ _ O];exact z) ⟨_,J⟩ (T5 J)
  rw[CD]at I2;refine xG (seqEpoch_at J rfl ?_);refine xG (wpAny_newTuple ?_ (by show its.length<=_;exact one_le Om));have I3:=I2.kept (t':=n.toks) (h':=(n.heap.update a (Obj.mapSeq λ_=>(#[]:Array Value))).push (seqObj "tuple" its.toArray 0)) λb u z=>xN _ z;refine xG (wpAny_newList ?_ (xi _));refine zQ ?_;generalize ab:(n.heap.update a (Obj.mapSeq λ_=>(#[]:Array Value))).push (seqObj "tuple" its.toArray 0)=h2 at I3;have ae:a<h2.objs.size:=by rw[<-ab,size_push',Heap.size_update];exact yW ha
  have hk:(h2.push (seqObj "list" #[] 0)).get? h2.objs.size=some (seqObj "list" #[] 0):=xf _ rfl;have I4:Inv X pins σ (upd (upd H0 a (fw a (seqObj "list" #[] e1))) h2.objs.size (fw h2.objs.size (seqObj "list" #[] 0))) {n with heap:=h2.push (seqObj "list" #[] 0)}:=
   I3.laid (t':=n.toks) (λb u z=>xN _ z) (xZ _) (T5 hk)
  have N:=I3.Cb.fresh (xZ _);have L:h2.objs.size≠a:=yY ae;have nk:H0 h2.objs.size=none:=by rw[AG L]at N;exact N
  show wpAny (model X.prog X.w) X.A.in1.in1 (ksk_rest a (.ref f) false its.toArray e1 (.ref h2.objs.size)) _ _ {n with heap:=h2.push (seqObj "list" #[] 0)};refine y4 (fx (Q:=Q) (xs:=xs) (ks:=ks) (its:=its) (H:=upd (upd H0 a (fw a (seqObj "list" #[] e1))) h2.objs.size (fw h2.objs.size (seqObj "list" #[] 0))) (E:=X.xe) F hr O ⟨I4,λb o z=>?_,?_,AB,?_⟩ L na nk hv hl hZ M λH2 ys h1 h3 h4=>q a H2 ys h1 na h3 h4) (λr s' hq=>?_) λ_ _ e=>e
  .rw[AG (λw1=>by rw[w1,nk]at z;cases z),AG (λw1=>by rw[w1,na]at z;cases z)];exact z
  .rw[AG (x8 L),AB]
  .exact .nil
  .obtain⟨rfl,hq⟩:=hq;exact⟨_,rfl,xU ⟨_,rfl,hq⟩⟩
def qR(K:PySem.W.Frag)(sp:Sp)(t:TA):TE:=λσ H Q=>t σ H λvs H1=>∃(l:Addr)(xs:List V)(ks:List (Int×Int)),vs=[.ref l]/\Ah K H1 l xs/\ks.length=xs.length/\xs.length<=1000/\
 (∀(i:Nat)(x:V)(z:Int×Int),xs[i]?=some x->ks[i]?=some z->∀H',AN H1 H'->sp [x] H' (λv H2=>∃t,v=.ref t/\AN H' H2/\H2 t=some (.tup [.int z.1,.int z.2])) E0)/\
 ∀(D:Addr)(H2:Hp)(ys:List V),AN H1 H2->H1 D=none->H2 D=some (.lst ys)->Jj ks xs ys->Q (.ref D) H2
theorem di(F:IV X.prog X.w X.K X.mg X.base kC k f fd ps sp)(B:DI (k+2) X.A)(J:Gl X x)(L:X.mg x=none)(M:bootBuiltins x=some (.builtin "sorted"))(j:Gl X g)(n:X.mg g=some (.ref f))(N:Binds X.K fd ps [])(O:PA X [e] t)
  (U:x≠"__name__":=by decide) (q:(x==("__debug__":Str))=false:=by decide) (z:(g==("__debug__":Str))=false:=by decide)
  (h1:backTo pos (starEach [e] X.env)=(false,eval e X.env)::backTo pos (starEach [] X.env):=by rfl) (h2:(backTo pos (starEach [e] X.env)).any (·.1)=false:=by rfl):
  PE X (.Call (.Name x p) [e] [⟨some "key",.Name g p2,kp⟩] pos) (qR X.K sp t):=by
 intro pins s σ H Q I h;refine zV (Lv I J L M ?_ U q);refine callWith_kw (Bw (O pos pins s σ H _ I h) λus Y zz=>?_) h1 h2 rfl rfl;obtain⟨vs,H1,I1,r1,l,xs,ks,e2,q1⟩:=zz;subst e2;rw[Vals.eX r1];refine Bw (oQ (CF (v:=.ref f) j n rfl z) qp pos pins Y σ H1 (λzs H2=>zs=[.ref f]/\H2=H1) I1 ⟨rfl,rfl⟩) λws s2⟨zs,H2,I2,r2,e3,e4⟩=>?_;subst e3 e4;rw[Vals.eX r2];obtain⟨q2,q3,q4,q5,q6⟩:=q1;exact Yl F B N I2 q2 q3 q4 q5 λD H3 ys=>q6 D H3 ys
end
def rA:Nat->(List Value->Prop)->Prop
 |0,p=>p []
 |n+1,p=>∀u,rA n λl=>p (u::l)
theorem wI{n:Nat}:∀{p:List Value->Prop},rA n p->∀us:List Value,us.length=n->p us:=by
 induction n with
 |zero=>intro p h us e;rw[len0 e];exact h
 |succ n j=>intro p h us e;obtain⟨u,t,rfl,q⟩:=kU e;exact j (h u) t q
def Ji(st:Stmt):List Str:=(Me st).args.map (·.arg)
def w4(x qual:Str)(st:Stmt):Prop:=∀(kV j pm:Value)(q:Option Addr)(n z:Value),rA (Ji st).length λus=>bindArgs (PySem.W.fnOf x qual (Me st) (Jn st) (A4 st) .none kV j pm q n z) ⟨us,[]⟩=pure ((Ji st).zip us)
section
variable{P:Program}{w:World}{K:PySem.W.Frag}{mg:Str->Option Value}{base:Heap}{x qual:Str}{st:Stmt}{f:Addr}{fd:FuncData}
def FB(P:Program)(w:World)(mg:Str->Option Value)(base:Heap)(_:CH K x qual st f fd)(k:Nat)(sp:Sp):Prop:=IV P w K mg base kC k f fd (Ji st) sp/\Binds K fd (Ji st) []
theorem nA{k:Nat}{sp:Sp}{F:CH K x qual st f fd}{R:Prop}(h:FB P w mg base F k sp)(g:IV P w K mg base kC k f fd (Ji st) sp->Binds K fd (Ji st) []->R):R:=g h.1 h.2
theorem Ce{N:List Str}{k:Nat}{sp:Sp}(F:CH K x qual st f fd)(S:Pc N (Ji st) (A4 st))
  (j:∀(q:Value)(A:Around)(n:List Env)(s:Shared)(H:Hp)(vs:List V)(Q:VK)(E:XK),DI k (A.deeper (envOfC qual (A4 st) s.heap.objs.size f q))->sp vs H Q E->
   ∃t,gX (A0 kC P w K mg base N qual (A4 st) f q A n s H E).Ck (Jn st) t/\t {nx:=λ_ H'=>Q .non H',rt:=Q} (start N vs) H) (len:∀vs H Q E,sp vs H Q E->vs.length=(Ji st).length:=by rintro _ _ _ _ ⟨⟩;subst_vars;rfl) (z:w4 x qual st:=by(repeat intro _);show _=_;kernel_rfl):FB P w mg base F (k+1) sp:=
 ⟨F.ok S len j,F.binds λ_ _ _ _ _ _ us B=>wI (z _ _ _ _ _ _) us B⟩
end
section
variable{X:Cx}
theorem B6(i:Nat){x:Str}{e:Expr}{te:TE}{pos pos':Pos}(j:X.N.Nodup)(n:PE X e te)(hi:X.N[i]?=some x:=by rfl)(q:Loc X.env.scope x:=by exact Or.inl rfl)(z:swapsWith e (some (.Name x pos')) pos.line X.env=pure false:=by rfl)(B:X.fn x=true\/X.env.scope.names.lookup x=some .local:=by first|exact .inl rfl|exact .inr rfl|assumption):PS X (.Assign [.Name x pos'] e pos) (mD te (R7 i)):=Y2 j hi q n z B
theorem Dz(i:Nat){x:Str}{pos:Pos}(j:X.N.Nodup)(hi:X.N[i]?=some x:=by rfl)(n:Loc X.env.scope x:=by exact Or.inl rfl)(q:X.fn x=true\/X.env.scope.names.lookup x=some .local:=by first|exact .inl rfl|exact .inr rfl|assumption):PG X (.Name x pos) (R7 i):=X3 j hi n q
theorem Cv{a b:Expr}{ta tb:TE}{pos:Pos}(j:PE X a ta)(n:PE X b tb)(q:iC b:=by exact λ_ _=>rfl):PE X (.Subscript a b pos) (sF (qg X.K) ta tb):=Gs pH j n q
theorem CA{op:CmpOp}{r:R2}{a b:Expr}{ta tb:TE}{pos:Pos}(j:Kx X (compareOp op) r)(n:PE X a ta)(q:PE X b tb)(h:op≠ .In:=by decide)(h2:op≠ .NotIn:=by decide):PT X (.Compare a [op] [b] pos) (mF (sF r ta tb)):=TR j n q (G5 b h h2)
theorem CI{n k:Nat}{f:Addr}{fd:FuncData}{sp:Sp}{x y q:Str}{st:Stmt}{p pos:Pos}{e:Expr}{es:List Expr}{t:TA}{B:CH X.K y q st f fd}(I:DI n X.A)(F:FB X.prog X.w X.mg X.base B k sp)(J:X.mg x=some (.ref f))(L:PA X (e::es) t)(M:k<=n:=by decide)(N:Gl X x:=by rfl)(j:(x==("__debug__":Str))=false:=by decide)(O:starEach (e::es) X.env=(false,eval e X.env)::starEach es X.env:=by rfl)(z:(backTo pos (starEach es X.env)).any (·.1)=false:=by rfl):PE X (.Call (.Name x p) (e::es) [] pos) (kr sp [] E0 t):=
 ng F.1 (I.mono M) N J B.kp F.2 .nil LK L j O z
theorem HN{n k:Nat}{f C:Addr}{fd:FuncData}{sp:Sp}{m x q:Str}{st:Stmt}{I:CH X.K x q st f fd}{pos apos:Pos}{e o:Expr}{es:List Expr}{ta:TE}{t:TA}{pl:Sem Bool}(J:DI n X.A)(L:PE X o ta)(c:Yg X.K C)(M:Meth X.K C m f)(F:FB X.prog X.w X.mg X.base I k sp)(N:PA X (e::es) t)(O:k<=n:=by decide)
  (j:starEach (e::es) X.env=(false,eval e X.env)::starEach es X.env:=by rfl) (z:(backTo pos (starEach es X.env)).any (·.1)=false:=by rfl)
  (U:eval (.Call (.Attribute o m apos) (e::es) [] pos) X.env=(do
   let B<-eval o X.env
   standAt apos.atName
   let(f,first)<-holding [B] (getMethod B m pl)
   callWith pos f first (backTo pos (starEach (e::es) X.env)) (backToKw pos (keywordEach [] X.env))):=by rfl):PE X (.Call (.Attribute o m apos) (e::es) [] pos) (lR C m sp [] E0 ta t):=
 nU L c M F.1 (J.mono O) F.2 .nil LK N j z U
theorem IM{e:Expr}{te:TE}{p pos:Pos}(q:X.mg "len"=none)(z:PE X e te)(B:Gl X "len":=by rfl)(n:starEach [e] X.env=(false,eval e X.env)::starEach [] X.env:=by rfl)(j:(backTo pos (starEach [] X.env)).any (·.1)=false:=by rfl):PE X (.Call (.Name "len" p) [e] [] pos) (vR (λxs H Q=>∃p ys,xs=[.ref p]/\(Ah X.K H p ys\/Cd X.K H p ys)/\Q (.int ys.length) H) (mN te jR)):=
 Fm YG B q PySem.boot_len (AA z AE n) Dc Dc n j
end
abbrev SF(N:List Str)(st:Stmt):Prop:=Pc N (Ji st) (A4 st)
theorem Cm{N:List Str}{st:Stmt}(h:SF N st:=by exact⟨rfl,rfl,rfl,Dk,rfl,Dk,Dk⟩):SF N st:=h
noncomputable def top(i:Nat):Stmt:=PySem.Challenge.pw_classeditions_s01_answers.main.body.getD i (.Pass ⟨0,0,0,0⟩)
abbrev dA:Stmt:=top 3
abbrev ML:Stmt:=top 4
abbrev XT:Stmt:=top 5
abbrev XA:Stmt:=top 6
abbrev HA:Stmt:=inClass (top 9) 0
abbrev K4:Stmt:=inClass (top 10) 0
abbrev GA:Stmt:=inClass (top 10) 1
abbrev FW:Stmt:=inClass (top 10) 2
abbrev Ej:Stmt:=top 12
abbrev LH:Stmt:=top 13
abbrev FY:Stmt:=top 14
abbrev Gp:Stmt:=top 15
abbrev Rx:Stmt:=top 17
abbrev XF:Stmt:=top 18
abbrev UJ:Stmt:=top 19
abbrev W7:Stmt:=top 20
abbrev Um:Stmt:=top 27
abbrev P6:Stmt:=top 28
abbrev Xj:Stmt:=top 29
abbrev L7:Stmt:=top 30
abbrev Lg:Stmt:=top 37
abbrev D9:Stmt:=top 38
abbrev KH:Stmt:=top 39
abbrev kH:Stmt:=top 40
abbrev Ex:Stmt:=top 49
abbrev NT:Stmt:=top 50
abbrev SE:Stmt:=top 51
abbrev PM:Stmt:=top 52
abbrev MG:Stmt:=top 53
abbrev G1:Stmt:=top 54
abbrev NP:Stmt:=top 55
abbrev JS:Stmt:=inClass (top 58) 0
abbrev Dx:Stmt:=inClass (top 58) 1
abbrev Di:Stmt:=inClass (top 58) 2
abbrev He:Stmt:=top 59
abbrev EF:Stmt:=top 60
abbrev Iu:Stmt:=top 61
abbrev KP:Stmt:=top 62
abbrev Pj:Stmt:=inClass (top 64) 0
abbrev HW:Stmt:=inClass (top 64) 1
abbrev JD:Stmt:=inClass (top 64) 2
abbrev LX:Stmt:=inClass (top 65) 0
abbrev Ew:Stmt:=inClass (top 65) 1
abbrev Fx:Stmt:=inClass (top 65) 2
abbrev EZ:Stmt:=inClass (top 65) 3
abbrev F3:Stmt:=inClass (top 65) 4
abbrev F7:Stmt:=inClass (top 65) 5
abbrev F1:Stmt:=top 68
abbrev Hc:Stmt:=top 69
abbrev U6:Stmt:=top 70
abbrev Nq:Stmt:=top 71
abbrev SI:Stmt:=top 72
abbrev Pn:Stmt:=top 73
abbrev Hl:Stmt:=inClass (top 89) 0
abbrev Gu:Stmt:=inClass (top 89) 1
abbrev Du:Stmt:=inClass (top 89) 2
abbrev El:Stmt:=inClass (top 89) 3
abbrev Ez:Stmt:=inClass (top 89) 4
abbrev NV:Stmt:=top 90
abbrev Pb:Stmt:=top 91
abbrev Nf:Stmt:=top 92
abbrev Rc:Stmt:=top 93
abbrev KJ:Stmt:=top 94
abbrev Qa:Stmt:=top 95
abbrev PH:Stmt:=inClass (top 97) 0
abbrev K8:Stmt:=top 98
abbrev U5:Stmt:=top 99
abbrev f9:Stmt:=top 100
abbrev OE:Stmt:=top 101
abbrev HI:Stmt:=top 102
abbrev ID:Stmt:=top 103
abbrev GZ:Stmt:=top 104
abbrev GB:Stmt:=top 106
abbrev Ry:Stmt:=top 107
abbrev QE:Stmt:=top 108
abbrev Qk:Stmt:=top 109
abbrev N3:Stmt:=top 110
abbrev Nh:Stmt:=top 111
abbrev Rl:Stmt:=top 112
abbrev R9:Stmt:=top 113
abbrev Jx:Stmt:=top 114
abbrev Ls:Stmt:=top 115
abbrev m6:Stmt:=top 116
abbrev NL:Stmt:=top 122
abbrev UP:Stmt:=top 123
abbrev LW:Stmt:=top 124
abbrev Wv:Stmt:=top 129
abbrev cp:Stmt:=top 130
abbrev Ni:Stmt:=top 131
theorem Mj:SF ["topics","found","topic"] dA:=Cm
theorem GU:SF ["number","topic","power"] ML:=Cm
theorem eF:SF ["first","second"] XT:=Cm
theorem fC:SF ["topics"] XA:=Cm
theorem M0:SF ["self","code","over","topics"] HA:=Cm
theorem Sr:SF ["self","text","classes"] K4:=Cm
theorem L3:SF ["self","c"] GA:=Cm
theorem CW:SF ["self","c","own","other"] FW:=Cm
theorem EL:SF ["edition","topics","c"] Ej:=Cm
theorem D8:SF ["edition","places","together","c"] LH:=Cm
theorem CU:SF ["edition","topics","left","each"] FY:=Cm
theorem BM:SF ["edition","topics","best","fewest","c","each","size"] Gp:=Cm
theorem PX:SF ["row","most","value"] Rx:=Cm
theorem Tr:SF ["row","place"] XF:=Cm
theorem Fj:SF ["row","mark","parts","part","value"] UJ:=Cm
theorem eG:SF ["row"] W7:=Cm
theorem cJ:SF ["byte"] Um:=Cm
theorem WN:SF ["byte"] P6:=Cm
theorem Ud:SF ["row","byte"] Xj:=Cm
theorem EB:SF ["row","value","byte"] L7:=Cm
theorem Cf:SF ["text","parts","sentences","classes","sentence","found"] Lg:=Cm
theorem BY:SF ["sentence","before","halves","codes","code","topics","part","over"] D9:=Cm
theorem FC:SF ["code","classes","place","other"] KH:=Cm
theorem gE:SF ["found","before","other"] kH:=Cm
theorem J9:SF ["records","number","numbers","rows"] Ex:=Cm
theorem Lp:SF ["records","text","classes"] NT:=Cm
theorem Yn:SF ["records","e"] SE:=Cm
theorem IF:SF ["records","e","c","edition","told"] PM:=Cm
theorem Fo:SF ["records","e","c","f","topics","edition"] MG:=Cm
theorem Bp:SF ["records","e","f","g","c","topics","between","carried","reached","straight","place"] G1:=Cm
theorem HG:SF ["records","e","c","f","topics","holder"] NP:=Cm
theorem DV:SF ["self","bit","topics"] JS:=Cm
theorem Cq:SF ["self","topics","meant","bit"] Dx:=Cm
theorem CZ:SF ["self","some","meant","bit"] Di:=Cm
theorem CQ:SF ["longest","found","size"] He:=Cm
theorem Bn:SF ["lists","longer","topics","first","topic"] EF:=Cm
theorem DY:SF ["marks","counts","mark"] Iu:=Cm
theorem C0:SF ["counts","mark","more","power","meant","count"] KP:=Cm
theorem Wd:SF ["self","day","words","marks"] Pj:=Cm
theorem OV:SF ["self","marks"] HW:=Cm
theorem Pm:SF ["self","i"] JD:=Cm
theorem Sv:SF ["self"] LX:=Cm
theorem Je:SF ["self","e"] Ew:=Cm
theorem MB:SF ["self","e","c"] Fx:=Cm
theorem JM:SF ["self","e","c"] EZ:=Cm
theorem MI:SF ["self","p"] F3:=Cm
theorem K7:SF ["self","k"] F7:=Cm
theorem Ly:SF ["records","number","numbers","rows"] F1:=Cm
theorem Dq:SF ["records","day","words","classes","last","c","marks"] Hc:=Cm
theorem Rq:SF ["records","p","e","c","paper"] U6:=Cm
theorem Gz:SF ["records","p","i","e","c","paper","common"] Nq:=Cm
theorem Pa:SF ["records","p","i","paper"] SI:=Cm
theorem Nu:SF ["records","p","paper"] Pn:=Cm
theorem Oa:SF ["self"] Hl:=Cm
theorem Mz:SF ["self","kind","value"] Gu:=Cm
theorem Dg:SF ["self","kind","around"] Du:=Cm
theorem IX:SF ["self","kind","value"] El:=Cm
theorem Jw:SF ["self"] Ez:=Cm
theorem Dh:SF ["text","edition","signs","maker","kind","value"] NV:=Cm
theorem DP:SF ["text","edition","signs","place","end","sign"] Pb:=Cm
theorem G7:SF ["text","place","end"] Nf:=Cm
theorem P5:SF ["row","edition","first"] Rc:=Cm
theorem Ic:SF ["kind","row","value"] KJ:=Cm
theorem IQ:SF ["row","edition","alone","c"] Qa:=Cm
theorem Vg:SF ["self","read_by","text","pieces"] PH:=Cm
theorem GR:SF ["pieces","meant_sets","kind","value"] K8:=Cm
theorem ET:SF ["query","day","words","every","waiting","kind","value","second"] U5:=Cm
theorem m3:SF ["kind","value","day","words"] f9:=Cm
theorem ES:SF ["query","paper","meant_sets","so","found","meant","count"] OE:=Cm
theorem Bd:SF ["first","second","meant_sets","pieces","lists","every","day","words","apart"] HI:=Cm
theorem C1:SF ["pieces","days","kind","day"] ID:=Cm
theorem By:SF ["pieces","found","word","kind","value","words"] GZ:=Cm
theorem FZ:SF ["records","number","numbers","rows","k"] GB:=Cm
theorem QY:SF ["records","k","e","text","pieces"] Ry:=Cm
theorem Vx:SF ["query"] QE:=Cm
theorem D4:SF ["records","k","surely","maybe","p","share"] Qk:=Cm
theorem Uh:SF ["records","k","p"] N3:=Cm
theorem C2:SF ["records","k","found","p","share","told","ranked"] Nh:=Cm
theorem QR:SF ["records","j","k","difference"] Rl:=Cm
theorem Ef:SF ["records","k","query","fresh","p","share"] R9:=Cm
theorem IL:SF ["records","k","paper"] Jx:=Cm
theorem Cg:SF ["share","greater","lesser","rest"] Ls:=Cm
theorem oi:SF ["ranked"] m6:=Cm
theorem BW:SF ["calls","found","start","number","end","numbers","rows","kind","first"] NL:=Cm
theorem Fl:SF ["number","numbers","rows","kind","value","row"] UP:=Cm
theorem Sx:SF ["kind","row"] LW:=Cm
theorem EN:SF ["calls","records","told","number","numbers","rows","answered"] Wv:=Cm
theorem i4:SF ["records","number","numbers","rows"] cp:=Cm
theorem UA:SF ["records"] Ni:=Cm
set_option genInjectivity false
set_option genSizeOfSpec false
set_option genSizeOf false
structure Txt(w:World)(K:PySem.W.Frag)(mg:Str->Option Value)where
 pb:mg "all"=none
 EU:mg "enumerate"=none
 Be:mg "len"=none
 sX:mg "list"=none
 TV:mg "range"=none
 qE:mg "set"=none
 U7:mg "sorted"=none
 lA:mg "sum"=none
 p0:mg "zip"=none
 Pq:∃t,mg "LAST_TOPIC"=some (.int (11) t)
 Gx:Addr
 Ut:mg "POWERS"=some (.ref Gx)
 Tz:∀H:Hp,Cd K H Gx [.int (1),.int (2),.int (4),.int (8),.int (16),.int (32),.int (64),.int (128),.int (256),.int (512),.int (1024),.int (2048)]
 DA:∃t,mg "NO_CLASS"=some (.int (-1) t)
 Uq:∃t,mg "LONGEST_CODE"=some (.int (6) t)
 fN:∃t,mg "ZERO"=some (.int (48) t)
 rV:∃t,mg "NINE"=some (.int (57) t)
 Zr:∃t,mg "CAPITAL_A"=some (.int (65) t)
 a9:∃t,mg "CAPITAL_Z"=some (.int (90) t)
 Tv:∃t,mg "MOST_CLASSES"=some (.int (16) t)
 pP:∃t,mg "COMMA"=some (.int (44) t)
 bu:∃t,mg "SEMICOLON"=some (.int (59) t)
 rq:∃t,mg "LESS"=some (.int (60) t)
 mR:∃t,mg "EQUALS"=some (.int (61) t)
 U2:∃t,mg "OUT_OF_RANGE"=some (.int (-1) t)
 dO:∃t,mg "FULL"=some (.int (-3) t)
 E8:∃t,mg "NO_PAPER"=some (.int (-5) t)
 K5:∃t,mg "NOT_RIGHT"=some (.int (-6) t)
 CM:∃t,mg "NOT_THERE"=some (.int (-7) t)
 T7:∃t,mg "NO_QUERY"=some (.int (-8) t)
 Ss:∃t,mg "MOST_EDITIONS"=some (.int (4) t)
 O4:∃t,mg "MOST_MARKS"=some (.int (3) t)
 WM:∃t,mg "MOST_PAPERS"=some (.int (12) t)
 jc:∃t,mg "DEEPEST"=some (.int (10) t)
 Rr:∃t,mg "OWN_ALONE"=some (.int (33) t)
 O6:∃t,mg "TOPICS"=some (.str "topics" t)
 fS:∃t,mg "WORD"=some (.str "#" t)
 ZT:∃t,mg "UNTIL"=some (.str "<" t)
 hJ:∃t,mg "SINCE"=some (.str ">" t)
 mB:∃t,mg "NOT"=some (.str "-" t)
 m7:∃t,mg "BOTH"=some (.str "&" t)
 bO:∃t,mg "EITHER"=some (.str "|" t)
 Qu:∃t,mg "BRACKET"=some (.str "(" t)
 WB:∃t,mg "BRACKET_END"=some (.str ")" t)
 Bq:Addr
 DU:mg "KINDS_BY_THEMSELVES"=some (.ref Bq)
 C9:KD w K Bq [(Sum.inl (38),.str "&"),(Sum.inl (40),.str "("),(Sum.inl (41),.str ")"),(Sum.inl (45),.str "-"),(Sum.inl (124),.str "|")]
 Cw:Addr
 F0:mg "KINDS_WITH_NUMBER"=some (.ref Cw)
 BV:KD w K Cw [(Sum.inl (35),.str "#"),(Sum.inl (60),.str "<"),(Sum.inl (62),.str ">")]
 Eg:Addr
 PB:mg "GREATEST_NUMBER"=some (.ref Eg)
 Ob:KD w K Eg [(Sum.inr "#",.int (5)),(Sum.inr "<",.int (999)),(Sum.inr ">",.int (999))]
 CO:Addr
 MN:mg "NUMBER_KINDS"=some (.ref CO)
 Ir:Addr
 RN:∀H:Hp,Cd K H Ir []
 JL:Addr
 RZ:∀H:Hp,Cd K H JL [.str "edition"]
 Ik:Addr
 Qy:∀H:Hp,Cd K H Ik [.str "edition",.str "class"]
 JY:Addr
 RB:∀H:Hp,Cd K H JY [.str "edition",.str "class",.str "edition"]
 JZ:Addr
 RC:∀H:Hp,Cd K H JZ [.str "edition",.str "edition",.str "edition",.str "class"]
 JI:Addr
 Qr:∀H:Hp,Cd K H JI [.str "edition",.str "class",.str "edition"]
 Jc:Addr
 RV:∀H:Hp,Cd K H Jc [.str "day"]
 IW:Addr
 RE:∀H:Hp,Cd K H IW [.str "paper",.str "edition",.str "class"]
 Ip:Addr
 Q3:∀H:Hp,Cd K H Ip [.str "paper",.str "mark",.str "edition",.str "class"]
 Io:Addr
 Qn:∀H:Hp,Cd K H Io [.str "paper",.str "mark"]
 HY:Addr
 O8:∀H:Hp,Cd K H HY [.str "paper"]
 Hd:Addr
 PY:∀H:Hp,Cd K H Hd [.str "place",.str "edition"]
 HU:Addr
 Ph:∀H:Hp,Cd K H HU [.str "place"]
 HP:Addr
 QL:∀H:Hp,Cd K H HP [.str "place"]
 IB:Addr
 P2:∀H:Hp,Cd K H IB [.str "place",.str "paper"]
 HQ:Addr
 PQ:∀H:Hp,Cd K H HQ [.str "place"]
 Hs:Addr
 Qi:∀H:Hp,Cd K H Hs [.str "place",.str "place"]
 Ht:Addr
 PF:∀H:Hp,Cd K H Ht [.str "place"]
 Hf:Addr
 Qd:∀H:Hp,Cd K H Hf []
 Ag:KD w K CO [(Sum.inl (0),.ref Ir),(Sum.inl (1),.ref JL),(Sum.inl (2),.ref Ik),(Sum.inl (3),.ref JY),(Sum.inl (4),.ref JZ),(Sum.inl (5),.ref JI),(Sum.inl (6),.ref Jc),(Sum.inl (7),.ref IW),(Sum.inl (8),.ref Ip),(Sum.inl (9),.ref Io),(Sum.inl (10),.ref HY),(Sum.inl (11),.ref Hd),(Sum.inl (12),.ref HU),(Sum.inl (13),.ref HP),(Sum.inl (14),.ref IB),(Sum.inl (15),.ref HQ),(Sum.inl (16),.ref Hs),(Sum.inl (17),.ref Ht),(Sum.inl (18),.ref Hf)]
 Dd:Addr
 Sd:mg "ROW_KINDS"=some (.ref Dd)
 NM:Addr
 Vf:∀H:Hp,Cd K H NM [.str "edition text"]
 Nj:Addr
 WC:∀H:Hp,Cd K H Nj [.str "words",.str "classes"]
 NR:Addr
 Vd:∀H:Hp,Cd K H NR [.str "query text"]
 GV:KD w K Dd [(Sum.inl (0),.ref NM),(Sum.inl (6),.ref Nj),(Sum.inl (11),.ref NR)]
 Jk:Addr
 Ul:mg "GREATEST"=some (.ref Jk)
 SH:KD w K Jk [(Sum.inr "edition",.int (3)),(Sum.inr "class",.int (15)),(Sum.inr "paper",.int (11)),(Sum.inr "mark",.int (2)),(Sum.inr "place",.int (3)),(Sum.inr "day",.int (999)),(Sum.inr "edition text",.int (255)),(Sum.inr "query text",.int (255)),(Sum.inr "words",.int (5)),(Sum.inr "classes",.int (15))]
 RK:Addr
 jE:mg "LONGEST"=some (.ref RK)
 d5:KD w K RK [(Sum.inr "edition text",.int (400)),(Sum.inr "query text",.int (60)),(Sum.inr "words",.int (6)),(Sum.inr "classes",.int (3))]
 Mo:∃t,mg "LAST_EDITION_CALL"=some (.int (5) t)
 QW:∃t,mg "LAST_PAPER_CALL"=some (.int (10) t)
 Ow:∃t,mg "LAST_QUERY_CALL"=some (.int (17) t)
 AX:Addr
 Aa:Yg K AX
 Wg:mg "SchemeClass"=some (.ref AX)
 Cy:Bj K AX "code"
 Bb:Bj K AX "over"
 Ae:Bj K AX "topics"
 A1:Addr
 BN:Yg K A1
 jn:mg "Edition"=some (.ref A1)
 KZ:Bj K A1 "text"
 Ax:Bj K A1 "classes"
 An:Addr
 Bz:Yg K An
 c8:mg "MeantSets"=some (.ref An)
 Cr:Bj K An "bits"
 EH:Bj K An "every"
 Bx:Addr
 BC:Yg K Bx
 nq:mg "Paper"=some (.ref Bx)
 KA:Bj K Bx "day"
 G0:Bj K Bx "words"
 BL:Bj K Bx "marks"
 Ea:Bj K Bx "meanings"
 Ao:Addr
 AM:Yg K Ao
 jy:mg "Records"=some (.ref Ao)
 AY:Bj K Ao "editions"
 Aq:Bj K Ao "papers"
 BG:Bj K Ao "queries"
 Br:Bj K Ao "meant_sets"
 Ai:Addr
 Ac:Yg K Ai
 Zf:mg "PieceMaker"=some (.ref Ai)
 Cp:Bj K Ai "pieces"
 Al:Bj K Ai "waiting"
 Bo:Bj K Ai "ended"
 CS:Addr
 DZ:Yg K CS
 o6:mg "Query"=some (.ref CS)
 JO:Bj K CS "read_by"
 Nm:Bj K CS "text"
 EC:Bj K CS "pieces"
 IK:Bj K CS "told"
 Zz:Addr
 m5:FuncData
 Zi:CH K "set_of" "set_of" dA Zz m5
 bo:mg "set_of"=some (.ref Zz)
 R3:Addr
 bz:FuncData
 Rw:CH K "topics_of" "topics_of" ML R3 bz
 SN:mg "topics_of"=some (.ref R3)
 Wy:Addr
 j2:FuncData
 XQ:CH K "without" "without" XT Wy j2
 RD:mg "without"=some (.ref Wy)
 Xq:Addr
 jj:FuncData
 W6:CH K "size_of" "size_of" XA Xq jj
 XM:mg "size_of"=some (.ref Xq)
 G9:Addr
 N5:FuncData
 G3:CH K "__init__" "SchemeClass.__init__" HA G9 N5
 VT:Mk K AX G9
 LM:Addr
 Va:FuncData
 LD:CH K "__init__" "Edition.__init__" K4 LM Va
 dX:Mk K A1 LM
 F5:Addr
 M8:FuncData
 GH:CH K "has_class" "Edition.has_class" GA F5 M8
 MT:Meth K A1 "has_class" F5
 FT:Addr
 L4:FuncData
 Fh:CH K "own_topics" "Edition.own_topics" FW FT L4
 CT:Meth K A1 "own_topics" FT
 IC:Addr
 Oz:FuncData
 HZ:CH K "classes_meeting" "classes_meeting" Ej IC Oz
 DX:mg "classes_meeting"=some (.ref IC)
 MR:Addr
 Ti:FuncData
 Lk:CH K "own_together" "own_together" LH MR Ti
 Uk:mg "own_together"=some (.ref MR)
 Fb:Addr
 Lz:FuncData
 Fd:CH K "topics_of_no_class" "topics_of_no_class" FY Fb Lz
 Le:mg "topics_of_no_class"=some (.ref Fb)
 HD:Addr
 OA:FuncData
 HJ:CH K "narrowest_holder" "narrowest_holder" Gp HD OA
 OP:mg "narrowest_holder"=some (.ref HD)
 Rj:Addr
 cR:FuncData
 SO:CH K "all_up_to" "all_up_to" Rx Rj cR
 SX:mg "all_up_to"=some (.ref Rj)
 Wu:Addr
 jB:FuncData
 W3:CH K "goes_up" "goes_up" XF Wu jB
 XS:mg "goes_up"=some (.ref Wu)
 VW:Addr
 fA:FuncData
 Td:CH K "split_at" "split_at" UJ VW fA
 Jf:mg "split_at"=some (.ref VW)
 XJ:Addr
 jS:FuncData
 W8:CH K "counted" "counted" W7 XJ jS
 DQ:mg "counted"=some (.ref XJ)
 Tw:Addr
 fV:FuncData
 UL:CH K "is_digit" "is_digit" Um Tw fV
 Jh:mg "is_digit"=some (.ref Tw)
 QQ:Addr
 YQ:FuncData
 PD:CH K "is_capital" "is_capital" P6 QQ YQ
 Qc:mg "is_capital"=some (.ref QQ)
 W2:Addr
 jO:FuncData
 Xc:CH K "is_code" "is_code" Xj W2 jO
 j3:mg "is_code"=some (.ref W2)
 MA:Addr
 Tj:FuncData
 K2:CH K "read_decimal" "read_decimal" L7 MA Tj
 Lw:mg "read_decimal"=some (.ref MA)
 LF:Addr
 U8:FuncData
 MD:CH K "read_classes" "read_classes" Lg LF U8
 T2:mg "read_classes"=some (.ref LF)
 KR:Addr
 S9:FuncData
 Kg:CH K "read_sentence" "read_sentence" D9 KR S9
 Si:mg "read_sentence"=some (.ref KR)
 KL:Addr
 TB:FuncData
 KS:CH K "place_of_code" "place_of_code" KH KL TB
 Fs:mg "place_of_code"=some (.ref KL)
 ki:Addr
 qL:FuncData
 mr:CH K "fits" "fits" kH ki qL
 qI:mg "fits"=some (.ref ki)
 Et:Addr
 Kj:FuncData
 E2:CH K "answer_edition_call" "answer_edition_call" Ex Et Kj
 Kq:mg "answer_edition_call"=some (.ref Et)
 ND:Addr
 V3:FuncData
 Nn:CH K "add_edition" "add_edition" NT ND V3
 V6:mg "add_edition"=some (.ref ND)
 SY:Addr
 dD:FuncData
 Rz:CH K "tell_text" "tell_text" SE SY dD
 bH:mg "tell_text"=some (.ref SY)
 O0:Addr
 Yk:FuncData
 QP:CH K "tell_class" "tell_class" PM O0 Yk
 Yr:mg "tell_class"=some (.ref O0)
 MQ:Addr
 UN:FuncData
 L0:CH K "tell_concord" "tell_concord" MG MQ UN
 Ui:mg "tell_concord"=some (.ref MQ)
 MM:Addr
 T3:FuncData
 Lo:CH K "tell_through" "tell_through" G1 MM T3
 VI:mg "tell_through"=some (.ref MM)
 NW:Addr
 WZ:FuncData
 Nw:CH K "tell_holder" "tell_holder" NP NW WZ
 Wq:mg "tell_holder"=some (.ref NW)
 JW:Addr
 Qv:FuncData
 Iy:CH K "__init__" "MeantSets.__init__" JS JW Qv
 ZA:Mk K An JW
 GD:Addr
 Mn:FuncData
 GL:CH K "meeting" "MeantSets.meeting" Dx GD Mn
 Lx:Meth K An "meeting" GD
 Fg:Addr
 K9:FuncData
 FU:CH K "first_of" "MeantSets.first_of" Di Fg K9
 Km:Meth K An "first_of" Fg
 Hx:Addr
 QO:FuncData
 Eb:CH K "lists_of_topics" "lists_of_topics" He Hx QO
 PJ:mg "lists_of_topics"=some (.ref Hx)
 Gj:Addr
 Of:FuncData
 HH:CH K "one_topic_longer" "one_topic_longer" EF Gj Of
 OZ:mg "one_topic_longer"=some (.ref Gj)
 Ij:Addr
 RR:FuncData
 JT:CH K "count_meanings" "count_meanings" Iu Ij RR
 Qo:mg "count_meanings"=some (.ref Ij)
 Kf:Addr
 TF:FuncData
 Ka:CH K "with_one_more" "with_one_more" KP Kf TF
 Sq:mg "with_one_more"=some (.ref Kf)
 Ov:Addr
 YW:FuncData
 QS:CH K "__init__" "Paper.__init__" Pj Ov YW
 lY:Mk K Bx Ov
 Hn:Addr
 Oo:FuncData
 Hu:CH K "put_marks" "Paper.put_marks" HW Hn Oo
 DG:Meth K Bx "put_marks" Hn
 Iv:Addr
 Qq:FuncData
 JG:CH K "has_mark" "Paper.has_mark" JD Iv Qq
 HX:Meth K Bx "has_mark" Iv
 LQ:Addr
 Tf:FuncData
 L1:CH K "__init__" "Records.__init__" LX LQ Tf
 fJ:Mk K Ao LQ
 E3:Addr
 Kv:FuncData
 E1:CH K "has_edition" "Records.has_edition" Ew E3 Kv
 BH:Meth K Ao "has_edition" E3
 GG:Addr
 NC:FuncData
 F2:CH K "has_class" "Records.has_class" Fx GG NC
 BS:Meth K Ao "has_class" GG
 Ec:Addr
 J6:FuncData
 Ee:CH K "class_topics" "Records.class_topics" EZ Ec J6
 BB:Meth K Ao "class_topics" Ec
 GJ:Addr
 Ms:FuncData
 GK:CH K "has_paper" "Records.has_paper" F3 GJ Ms
 B2:Meth K Ao "has_paper" GJ
 F4:Addr
 M9:FuncData
 F9:CH K "has_query" "Records.has_query" F7 F4 M9
 FV:Meth K Ao "has_query" F4
 GN:Addr
 M6:FuncData
 F8:CH K "answer_paper_call" "answer_paper_call" F1 GN M6
 Mp:mg "answer_paper_call"=some (.ref GN)
 SJ:Addr
 cZ:FuncData
 Rt:CH K "add_paper" "add_paper" Hc SJ cZ
 bj:mg "add_paper"=some (.ref SJ)
 U0:Addr
 et:FuncData
 Uy:CH K "add_mark" "add_mark" U6 U0 et
 eH:mg "add_mark"=some (.ref U0)
 NH:Addr
 WA:FuncData
 Nv:CH K "narrow_mark" "narrow_mark" Nq NH WA
 WD:mg "narrow_mark"=some (.ref NH)
 Rv:Addr
 cE:FuncData
 SU:CH K "take_mark" "take_mark" SI Rv cE
 b9:mg "take_mark"=some (.ref Rv)
 P9:Addr
 X9:FuncData
 QF:CH K "tell_paper" "tell_paper" Pn P9 X9
 Yq:mg "tell_paper"=some (.ref P9)
 Hg:Addr
 Qj:FuncData
 Hv:CH K "__init__" "PieceMaker.__init__" Hl Hg Qj
 V9:Mk K Ai Hg
 Gr:Addr
 Oe:FuncData
 G2:CH K "takes" "PieceMaker.takes" Gu Gr Oe
 Mm:Meth K Ai "takes" Gr
 Dr:Addr
 HM:FuncData
 Dt:CH K "takes_behind" "PieceMaker.takes_behind" Du Dr HM
 Gi:Meth K Ai "takes_behind" Dr
 En:Addr
 J1:FuncData
 Ep:CH K "end_query" "PieceMaker.end_query" El En J1
 EX:Meth K Ai "end_query" En
 Ey:Addr
 Kn:FuncData
 Es:CH K "is_whole" "PieceMaker.is_whole" Ez Ey Kn
 KC:Meth K Ai "is_whole" Ey
 NS:Addr
 V8:FuncData
 Ny:CH K "read_pieces" "read_pieces" NV NS V8
 Wl:mg "read_pieces"=some (.ref NS)
 Qg:Addr
 Y7:FuncData
 Pk:CH K "read_signs" "read_signs" Pb Qg Y7
 ZQ:mg "read_signs"=some (.ref Qg)
 Np:Addr
 Wb:FuncData
 NJ:CH K "end_of_sign" "end_of_sign" Nf Np Wb
 Vi:mg "end_of_sign"=some (.ref Np)
 SV:Addr
 bY:FuncData
 Rh:CH K "read_sign" "read_sign" Rc SV bY
 Zv:mg "read_sign"=some (.ref SV)
 Kc:Addr
 Sm:FuncData
 KY:CH K "read_numbered" "read_numbered" KJ Kc Sm
 Sl:mg "read_numbered"=some (.ref Kc)
 Pd:Addr
 Yx:FuncData
 Qb:CH K "read_class" "read_class" Qa Pd Yx
 ZN:mg "read_class"=some (.ref Pd)
 O2:Addr
 ZY:FuncData
 Pr:CH K "__init__" "Query.__init__" PH O2 ZY
 mC:Mk K CS O2
 SR:Addr
 cW:FuncData
 Rm:CH K "with_bits" "with_bits" K8 SR cW
 cM:mg "with_bits"=some (.ref SR)
 U3:Addr
 eN:FuncData
 VJ:CH K "so_among" "so_among" U5 U3 eN
 OX:mg "so_among"=some (.ref U3)
 gq:Addr
 pN:FuncData
 hU:CH K "is_so" "is_so" f9 gq pN
 oh:mg "is_so"=some (.ref gq)
 VB:Addr
 eP:FuncData
 VN:CH K "share_of" "share_of" OE VB eP
 VU:mg "share_of"=some (.ref VB)
 G4:Addr
 OW:FuncData
 HB:CH K "first_difference" "first_difference" HI G4 OW
 OU:mg "first_difference"=some (.ref G4)
 Nc:Addr
 V5:FuncData
 N2:CH K "days_to_try" "days_to_try" ID Nc V5
 Vr:mg "days_to_try"=some (.ref Nc)
 PZ:Addr
 Za:FuncData
 Pw:CH K "word_lists" "word_lists" GZ PZ Za
 YA:mg "word_lists"=some (.ref PZ)
 GC:Addr
 Mw:FuncData
 Fz:CH K "answer_query_call" "answer_query_call" GB GC Mw
 NB:mg "answer_query_call"=some (.ref GC)
 Rf:Addr
 bS:FuncData
 SG:CH K "put_query" "put_query" Ry Rf bS
 bN:mg "put_query"=some (.ref Rf)
 Oj:Addr
 Xx:FuncData
 PV:CH K "tell_query" "tell_query" QE Oj Xx
 Yj:mg "tell_query"=some (.ref Oj)
 P0:Addr
 YC:FuncData
 QM:CH K "tell_found" "tell_found" Qk P0 YC
 ZP:mg "tell_found"=some (.ref P0)
 NF:Addr
 V2:FuncData
 NX:CH K "tell_likely" "tell_likely" N3 NF V2
 Vp:mg "tell_likely"=some (.ref NF)
 NK:Addr
 Wn:FuncData
 NU:CH K "tell_ranked" "tell_ranked" Nh NK Wn
 WE:mg "tell_ranked"=some (.ref NK)
 Rn:Addr
 bV:FuncData
 Rg:CH K "tell_same" "tell_same" Rl Rn bV
 Zs:mg "tell_same"=some (.ref Rn)
 R4:Addr
 cS:FuncData
 Rp:CH K "tell_news" "tell_news" R9 R4 cS
 bF:mg "tell_news"=some (.ref R4)
 Po:Addr
 Yh:FuncData
 QX:CH K "all_shares" "all_shares" Jx Po Yh
 Jv:mg "all_shares"=some (.ref Po)
 LB:Addr
 Uw:FuncData
 Ky:CH K "lowest_terms" "lowest_terms" Ls LB Uw
 LL:mg "lowest_terms"=some (.ref LB)
 k6:Addr
 rX:FuncData
 ku:CH K "rank" "rank" m6 k6 rX
 qG:mg "rank"=some (.ref k6)
 N1:Addr
 We:FuncData
 N0:CH K "split_calls" "split_calls" NL N1 We
 Vj:mg "split_calls"=some (.ref N1)
 T8:Addr
 d8:FuncData
 VM:CH K "in_range" "in_range" UP T8 d8
 d7:mg "in_range"=some (.ref T8)
 L9:Addr
 Uu:FuncData
 LP:CH K "row_in_range" "row_in_range" LW L9 Uu
 UI:mg "row_in_range"=some (.ref L9)
 Q7:Addr
 Xk:FuncData
 Q4:CH K "answers" "answers" Wv Q7 Xk
 jP:mg "answers"=some (.ref Q7)
 bc:Addr
 mQ:FuncData
 bJ:CH K "answer" "answer" cp bc mQ
 kX:mg "answer"=some (.ref bc)
 Na:Addr
 Vo:FuncData
 Nr:CH K "tell_counts" "tell_counts" Ni Na Vo
 V0:mg "tell_counts"=some (.ref Na)
end CE
namespace CE
open PySem PySem.Spec PyProof.Rows L2
section
variable{P:Program}{w:World}{K:PySem.W.Frag}{mg:Str->Option Value}{base:Heap}
theorem nM(a b:Nat)(j:a<4096):(a:Int) - Builtin.bitAnd (a:Int) (b:Int)=((Vbptal.less a b:Nat):Int):=by rw[EM,iH j];have:a &&& b<=a:=Nat.and_le_left;lia
inductive eU(vs:List V)(H:Hp)(Q:VK)(z3_:XK):Prop
 |mk (a b:Nat) (_:vs=[vn a,vn b]) (_:a<4096) (_:Q (vn (Vbptal.less a b)) H)
theorem OB(T:Txt w K mg):FB P w mg base T.XQ 1 eU:=by refine Ce T.XQ eF λn A j s H vs Q E B h=>?_;obtain⟨a,b,rfl,z,q⟩:=h;refine⟨_,(AF (AK (Ap IH (pv 0) (Ap Gm (pv 0) (pv 1))))),?_⟩;refine⟨_,rfl,_,rfl,_,rfl,_,_,rfl,rfl,_,_,rfl,rfl,?_⟩;show Q (V.int ((a:Int) - Builtin.bitAnd (a:Int) (b:Int))) H;rw[nM a b z];exact q
inductive iT(vs:List V)(H:Hp)(Q:VK)(z3_:XK):Prop
 |mk (a:Addr) (l:List Nat) (_:vs=[.ref a]) (_:LI H a l) (_:(∀t∈l,t<12)) (_:Q (vn (Vbptal.maskOf l)) H)
theorem sV{t:Nat}(h:t<12):ji [V.int 1,.int 2,.int 4,.int 8,.int 16,.int 32,.int 64,.int 128,.int 256,.int 512,.int 1024,.int 2048] (t:Int)=some (vn (2 ^ t)):=by
 refine gz ?_;have:∀t,t<12->([V.int 1,.int 2,.int 4,.int 8,.int 16,.int 32,.int 64,.int 128,.int 256,.int 512,.int 1024,.int 2048]:List V)[t]?=some (vn (2 ^ t)):=by decide
 exact this t h
theorem Xs(T:Txt w K mg):FB P w mg base T.Zi 1 iT:=by
 refine Ce T.Zi Mj λI A j s H vs Q E L h=>?_;obtain⟨a,l,rfl,z,n,q⟩:=h;refine⟨_,(AD (B6 1 Mj.nd AL) (AD (Bc xo rfl (BE (pv 0)) (Dz 2 Mj.nd) (AF (B6 1 Mj.nd (Ap cu (pv 1) (Gs Em (CF (v:=.ref T.Gx) rfl T.Ut rfl) (pv 2) (λ_ _=>rfl)))))) (AF (AK (pv 1))))),?_⟩;dsimp only[A0,Cx.Ck];refine⟨_,rfl,a,rfl,⟨_,z.sq⟩,Bh (K:=K) (a:=a) (xs:=Bs l) (λi σ H'=>H'=H/\∃v,σ=[some (.ref a),some (vn (Vbptal.maskOf (l.take i))),v]) ⟨rfl,_,rfl⟩ (λi σ H' _ h=>by rw[h.1];exact z.sq) ?_ ?_⟩
 .rintro i x σ H' J ⟨rfl,v,rfl⟩;obtain⟨t,B,rfl⟩:=FN J;refine⟨_,rfl,_,rfl,_,_,_,_,rfl,rfl,T.Tz _,sV (n t (xO B)),_,_,rfl,rfl,rfl,some (vn t),?_⟩;show[some (V.ref a),some (V.int (Builtin.bitOr (Vbptal.maskOf (l.take i):Nat) ((2 ^ t:Nat):Int))),some (vn t)]=_;rw[Ig,take_succ B,LU]
 .rintro σ H' ⟨rfl,v,rfl⟩;refine⟨_,rfl,?_⟩;have e:(Bs l).length=l.length:=by simp
  rw[e,xm];exact q
theorem eI(m:Nat):Vbptal.topics m=(List.range 12).filter λt=>decide (m &&& 2 ^ t≠0):=by
 unfold Vbptal.topics;apply List.filter_congr;intro t _;have:=gh m t;cases h:m.testBit t with
 |true=>
  symm
  apply xR;intro q;rw[this.mp q]at h;cases h
 |false=>
  symm
  apply xV;intro q;exact q (this.mpr h)
theorem iE:([V.int 1,.int 2,.int 4,.int 8,.int 16,.int 32,.int 64,.int 128,.int 256,.int 512,.int 1024,.int 2048]:List V)=(List.range 12).map λt=>vn (2 ^ t):=by decide
inductive Y3(vs:List V)(H:Hp)(Q:VK)(z3_:XK):Prop
 |mk (m:Nat) (_:vs=[vn m]) (_:∀H' p,AN H H'->H p=none->LI H' p (Vbptal.topics m)->Q (.ref p) H')
theorem O9(T:Txt w K mg):FB P w mg base T.Rw 1 Y3:=by
 refine Ce T.Rw GU λY A I s H vs Q E hr h=>?_;obtain⟨m,rfl,q⟩:=h;refine⟨_,(AF (AK (Hw rfl GU.nd (mY rfl T.EU (AA (CF (v:=.ref T.Gx) rfl T.Ut rfl) AE)) (show D1 ["number","topic","power"] (A4 ML) _ [("topic",1),("power",2)]from CB Dk) (λ_ _ _ _ _=>(show PG _ _ (eC K 2 _)from(DT rfl (Ak (Dz 1 GU.nd) (Ak (Dz 2 GU.nd) CY))))) (λ_ _ _ _ _=>(Hq (CA IA (Ap Gm (pv 0) (pv 2)) AL))) (λ_ _ _ _ _=>(pv 1))))),?_⟩;dsimp only[A0,Cx.Ck];have J:=T.Tz;rw[iE]at J;refine⟨_,_,rfl,J _,λD L=>kc (K:=K) (a:=T.Gx) (xs:=(List.range 12).map λt=>vn (2 ^ t)) (λi H'=>AN H H'/\LI H' D ((List.range i).filter λt=>decide (m &&& 2 ^ t≠0))) ⟨AI L,AB⟩ J ?_ ?_⟩
 .rintro i x H' B M ⟨N,hd⟩ U;have hi:i<12:=by
   have:=(xP.mp M).1;simpa using this
  have ex:x=vn (2 ^ i):=by rw[xh,List.getElem?_range hi]at M;exact(xn M).symm
  subst ex;have O:D≠B:=AH hd U;have j:AN H (upd H' B (.tup [vn i,vn (2 ^ i)])):=N.trans (AI U);have n:LI (upd H' B (.tup [vn i,vn (2 ^ i)])) D ((List.range i).filter λt=>decide (m &&& 2 ^ t≠0)):=by unfold LI;rw[AG O];exact hd
  refine⟨B,_,rfl,Cd.of AB,rfl,_,_,rfl,_,_,rfl,rfl,rfl,_,rfl,_,rfl,_,_,rfl,rfl,rfl,_,rfl,?_⟩;have eb:(!decide (V.int (Builtin.bitAnd (m:Int) ((2 ^ i:Nat):Int))=V.int 0))=decide (m &&& 2 ^ i≠0):=by
   rw[EM,Er];by_cases h:m &&& 2 ^ i=0
   .simp[h]
   .simp[h]<;> lia
  show if(!decide (V.int (Builtin.bitAnd (m:Int) ((2 ^ i:Nat):Int))=V.int 0))=true then _ else _
  rw[eb];refine Fi (λh=>⟨_,rfl,_,n,?_,λb o e=>?_,?_⟩) (λh=>⟨j,?_⟩)
  .refine Az (xr ?_ (show 12<=1000000 by decide));have:=yI (λt=>decide (m &&& 2 ^ t≠0)) (List.range i);rw[Am];rw[yl]at this;lia
  .rw[AG (AH e L)];exact j b o e
  .unfold LI;rw[AB,JH h];exact x3 (λz=>some (HO.lst z)) (B4 _ _).symm
  .rw[Gh h];exact n
 .rintro H' ⟨N,hd⟩;have e:(((List.range 12).map λt=>vn (2 ^ t)):List V).length=12:=by simp
  rw[e,<-eI]at hd;exact q H' D N L hd
inductive fI(vs:List V)(H:Hp)(Q:VK)(z3_:XK):Prop
 |mk (m:Nat) (_:vs=[vn m]) (_:∀H',AN H H'->Q (vn (Vbptal.size m)) H')
theorem Ue(T:Txt w K mg):FB P w mg base T.W6 2 fI:=by refine Ce T.W6 fC λn A j s H vs Q E z h=>?_;obtain⟨m,rfl,q⟩:=h;refine⟨_,(AF (AK (IM T.Be (CI z (O9 T) T.SN (AA (pv 0) AE))))),?_⟩;dsimp only[A0,Cx.Ck];refine⟨_,rfl,m,rfl,λH' p B J I=>⟨p,_,rfl,.inl I.sq,?_⟩⟩;rw[Am];exact q H' B
end
noncomputable def lC:Option Nat->Int
 |none=> -1
 |some i=>i
def fF(l:Addr)(o:Int)(m:Nat):List (Str×V):=Ad "topics" (vn m) (Ad "over" (.int o) (Ad "code" (.ref l) []))
def px(lt j:Addr):List (Str×V):=Ad "classes" (.ref j) (Ad "text" (.ref lt) [])
theorem Bt(l:Addr)(o:Int)(m:Nat):(fF l o m).lookup ("topics":Str)=some (vn m):=by unfold fF;rw[AJ,xQ rfl]
theorem Ih(l:Addr)(o:Int)(m:Nat):(fF l o m).lookup ("over":Str)=some (.int o):=by unfold fF;rw[AJ,xJ Dk,AJ,xQ rfl]
theorem Tt(l:Addr)(o:Int)(m:Nat):(fF l o m).lookup ("code":Str)=some (.ref l):=by unfold fF;rw[AJ,xJ Dk,AJ,xJ Dk,AJ,xQ rfl]
theorem Cu(lt j:Addr):(px lt j).lookup ("classes":Str)=some (.ref j):=by unfold px;rw[AJ,xQ rfl]
theorem nr(lt j:Addr):(px lt j).lookup ("text":Str)=some (.ref lt):=by unfold px;rw[AJ,xJ Dk,AJ,xQ rfl]
theorem bD(lt j:Addr){m:Str}(h1:¬m="classes")(h2:¬m="text"):(px lt j).lookup m=none:=by unfold px;rw[AJ,xJ h1,AJ,xJ h2];rfl
theorem put1(a:Str)(x:V):(Ad a x []).length<1000:=by have:=Ar a x [];simp at this;lia
theorem put2(a b:Str)(x y:V):(Ad b y (Ad a x [])).length<1000:=by have h1:=Ar a x [];have h2:=Ar b y (Ad a x []);simp at h1;lia
theorem put3(a b c:Str)(x y z:V):(Ad c z (Ad b y (Ad a x []))).length<1000:=by have h1:=Ar a x [];have h2:=Ar b y (Ad a x []);have j:=Ar c z (Ad b y (Ad a x []));simp at h1;lia
inductive ClsAt(C:Addr)(H:Hp)(a:Addr)(c:Vbptal.Class):Prop
 |mk (dx l) (_:H a=some (.ins C dx (fF l (lC c.over) c.mask))) (_:LI H l c.code)
inductive Ju(C:Addr)(H:Hp)(a:Addr)(e:Vbptal.Edition):Prop
 |mk (as:List Addr) (_:H a=some (.lst (as.map V.ref))) (_:Paired (ClsAt C H) as e)
inductive Jo(D C:Addr)(H:Hp)(a:Addr)(e:Vbptal.Edition)(t:List Nat):Prop
 |mk (dx lt lc) (_:H a=some (.ins D dx (px lt lc))) (_:LI H lt t) (_:Ju C H lc e)
theorem ClsAt.mono(h:ClsAt C H a c)(s:AN H H'):ClsAt C H' a c:=by obtain⟨dx,l,h1,h2⟩:=h;exact⟨dx,l,s _ _ h1,h2.mono s⟩
theorem Ju.mono(h:Ju C H a e)(s:AN H H'):Ju C H' a e:=by obtain⟨as,h1,h2⟩:=h;exact⟨as,s _ _ h1,Paired.BO (λ_ _ q=>ClsAt.mono q s) h2⟩
theorem Jo.mono(h:Jo D C H a e t)(s:AN H H'):Jo D C H' a e t:=by obtain⟨dx,lt,j,h1,h2,n⟩:=h;exact⟨dx,lt,j,s _ _ h1,h2.mono s,n.mono s⟩
theorem qt{o:Option Nat}{c:Nat}:decide (V.int (lC o)=V.int (c:Int))=decide (o=some c):=by
 cases o with
 |none=>
  have h1:¬(V.int (lC none)=V.int (c:Int)):=by
   intro h;injection h with h
   have h:(-1:Int)=(c:Int):=h;lia
  rw[xV h1,xV (by simp)]
 |some i=>
  by_cases h:i=c
  .subst h;simp[lC]
  .have h1:¬(V.int (lC (some i))=V.int (c:Int)):=by
    intro q;injection q with q
    have q:(i:Int)=(c:Int):=q;lia
   rw[xV h1,xV (by simpa using h)]
section
variable{P:Program}{w:World}{K:PySem.W.Frag}{mg:Str->Option Value}{base:Heap}
inductive NA(C:Addr)(vs:List V)(H:Hp)(Q:VK)(z3_:XK):Prop
 |mk (p dx:Addr) (c o m:V) (_:vs=[.ref p,c,o,m]) (_:H p=some (.ins C dx [])) (_:Q .non (upd H p (.ins C dx (Ad "topics" m (Ad "over" o (Ad "code" c []))))))
theorem Mt(T:Txt w K mg):FB P w mg base T.G3 1 (NA T.AX):=by refine Ce T.G3 M0 λn A j s H vs Q E B h=>?_;obtain⟨p,dx,c,o,m,rfl,z,q⟩:=h;refine⟨_,(AD (CG (pv 0) (pv 1) rfl) (AD (CG (pv 0) (pv 2) rfl) (AF (CG (pv 0) (pv 3) rfl)))),?_⟩;dsimp only[A0,Cx.Ck];refine⟨_,rfl,_,rfl,p,_,dx,[],rfl,z,T.Aa,T.Cy,(by show 0<1000;decide),?_⟩;refine⟨_,rfl,_,rfl,p,_,dx,_,rfl,AB,T.Aa,T.Bb,put1 _ _,?_⟩;refine⟨_,rfl,_,rfl,p,_,dx,_,rfl,AB,T.Aa,T.Ae,put2 _ _ _ _,?_⟩;rw[CD,CD];exact q
inductive S6(C:Addr)(vs:List V)(H:Hp)(Q:VK)(z3_:XK):Prop
 |mk (p dx:Addr) (t c:V) (_:vs=[.ref p,t,c]) (_:H p=some (.ins C dx [])) (_:Q .non (upd H p (.ins C dx (Ad "classes" c (Ad "text" t [])))))
theorem Se(T:Txt w K mg):FB P w mg base T.LD 1 (S6 T.A1):=by refine Ce T.LD Sr λn A j s H vs Q E B h=>?_;obtain⟨p,dx,t,c,rfl,z,q⟩:=h;refine⟨_,(AD (CG (pv 0) (pv 1) rfl) (AF (CG (pv 0) (pv 2) rfl))),?_⟩;dsimp only[A0,Cx.Ck];refine⟨_,rfl,_,rfl,p,_,dx,[],rfl,z,T.BN,T.KZ,(by show 0<1000;decide),?_⟩;refine⟨_,rfl,_,rfl,p,_,dx,_,rfl,AB,T.BN,T.Ax,put1 _ _,?_⟩;rw[CD];exact q
inductive LA(D C:Addr)(vs:List V)(H:Hp)(Q:VK)(z3_:XK):Prop
 |mk (a:Addr) (e:Vbptal.Edition) (t:List Nat) (c:Int) (_:vs=[.ref a,.int c]) (_:Jo D C H a e t) (_:Q (.bl (decide (c<e.length))) H)
theorem L8(T:Txt w K mg):FB P w mg base T.GH 1 (LA T.A1 T.AX):=by
 refine Ce T.GH L3 λn A j s H vs Q E J h=>?_;obtain⟨a,e,t,c,rfl,⟨dx,lt,z,h1,h2,as,B,I⟩,q⟩:=h;refine⟨_,(AF (AK (Eh Nz (pv 1) (IM T.Be (AO (pv 0) rfl)) (G5 _)))),?_⟩;dsimp only[A0,Cx.Ck];refine⟨_,rfl,_,rfl,_,_,_,_,_,rfl,h1,T.BN,T.Ax,Cu _ _,z,_,rfl,.inl (Ah.of B),_,_,rfl,rfl,?_⟩;have e1:(as.map V.ref).length=e.length:=by rw[xH];exact AR I
 rw[e1];exact q
inductive Kp(D C:Addr)(vs:List V)(H:Hp)(Q:VK)(z3_:XK):Prop
 |mk (a:Addr) (e:Vbptal.Edition) (t:List Nat) (c:Nat) (_:vs=[.ref a,vn c]) (_:Jo D C H a e t) (_:Cc e) (_:c<e.length) (_:Q (vn (Vbptal.own e c)) H)
theorem CV(T:Txt w K mg):FB P w mg base T.Fh 2 (Kp T.A1 T.AX):=by
 refine Ce T.Fh CW λY A B s H vs Q E hr h=>?_;obtain⟨a,e,t,c,rfl,⟨dx,lt,I,h1,h2,as,J,L⟩,ok,U,q⟩:=h;refine⟨_,(AD (B6 2 CW.nd (AO (Cv (AO (pv 0) rfl) (pv 1)) rfl)) (AD (Bc xo rfl (BE (AO (pv 0) rfl)) (Dz 3 CW.nd) (AF (Ab (CA A5 (AO (pv 3) rfl) (pv 1)) (AF (B6 2 CW.nd (CI hr (OB T) T.RD (AA (pv 2) (AA (AO (pv 3) rfl) AE))))) AQ))) (AF (AK (pv 2))))),?_⟩;dsimp only[A0,Cx.Ck];obtain⟨ca,M,dc,N,n,_⟩:=Bu c e[c] L (xW U);refine⟨_,rfl,_,_,_,_,_,rfl,h1,T.BN,T.Ax,Cu _ _,_,rfl,I,_,_,_,rfl,rfl,Ah.of J,at_of (j:=c) rfl (by rw[xh,M];rfl),_,_,_,_,_,rfl,n,T.Aa,T.Ae,Bt _ _ _,?_⟩;have hm:e[c].mask=I0 e c 0:=by rw[eT ok,Dl (xW U)]
 rw[hm];refine⟨_,rfl,_,_,_,_,_,rfl,h1,T.BN,T.Ax,Cu _ _,I,rfl,⟨_,Ah.of J⟩,Bh (K:=K) (a:=I) (xs:=as.map V.ref) (λi σ H'=>H'=H/\∃v,σ=[some (.ref a),some (vn c),some (vn (I0 e c i)),v]) ⟨rfl,_,rfl⟩ (λi σ H' _ h=>by rw[h.1];exact Ah.of J) ?_ ?_⟩
 .rintro i x σ H' hx ⟨rfl,v,rfl⟩;obtain⟨b,hb,rfl⟩:=BK hx;obtain⟨d,hd,dd,ld,z,_⟩:=Av i b L hb;refine⟨_,rfl,_,_,_,_,_,rfl,z,T.Aa,T.Bb,Ih _ _ _,_,rfl,rfl,_,rfl,?_⟩;rw[qt];refine Fi (λh=>?_) (λh=>?_)
  .have O:=xI h;refine⟨_,rfl,_,rfl,_,_,_,_,_,rfl,z,T.Aa,T.Ae,Bt _ _ _,_,_,rfl,lN e c i,rfl,some (.ref b),?_⟩;rw[jm hd O];rfl
  .have O:¬d.over=some c:=λq=>h (xR q);refine⟨rfl,some (.ref b),?_⟩;rw[lQ hd O];rfl
 .rintro σ H' ⟨rfl,v,rfl⟩;refine⟨_,rfl,?_⟩;have e1:(as.map V.ref).length=e.length:=by rw[xH];exact AR L
  rw[e1,i7];exact q
theorem bf{a b:Nat}(j:a<4096):(!decide (V.int (Builtin.bitAnd (a:Int) (b:Int))=V.int 0))=(Vbptal.meet a b !=0):=by
 rw[EM,Er,iQ j];by_cases h:a &&& b=0
 .simp[h]
 .have h2:¬(((a &&& b:Nat):Int)=0):=by lia
  rw[show((((a &&& b:Nat):Int))==0)=false from yF.mpr h2];show true=(a &&& b !=0);rw[bne_iff_ne.mpr h]
inductive OM(D C:Addr)(vs:List V)(H:Hp)(Q:VK)(z3_:XK):Prop
 |mk (a:Addr) (e:Vbptal.Edition) (t:List Nat) (m:Nat) (_:vs=[.ref a,vn m]) (_:Jo D C H a e t) (_:Cc e) (_:∀H' p,AN H H'->H p=none->LI H' p (Vbptal.meeting e m)->Q (.ref p) H')
theorem C7(T:Txt w K mg):FB P w mg base T.HZ 3 (OM T.A1 T.AX):=by
 refine Ce T.HZ EL λN A I s H vs Q E O h=>?_;obtain⟨a,e,t,m,rfl,L,ok,q⟩:=h;obtain⟨dx,lt,U,h1,h2,as,Y,h4⟩:=id L;refine⟨_,(AF (AK (Hw rfl EL.nd (XR rfl T.TV (AA (IM T.Be (AO (pv 0) rfl)) AE)) (show D1 ["edition","topics","c"] (A4 Ej) _ [("c",2)]from CB Dk) (λ_ _ _ _ _=>(Dz 2 EL.nd)) (λ_ _ _ _ _=>(Hq (CA IA (Ap Gm (HN O (pv 0) T.BN T.CT (CV T) (AA (pv 2) AE)) (pv 1)) AL))) (λ_ _ _ _ _=>(pv 2))))),?_⟩;dsimp only[A0,Cx.Ck];have e1:(as.map V.ref).length=e.length:=by rw[xH];exact AR h4
 have M:=ok.len;refine⟨_,rfl,_,_,_,_,_,rfl,h1,T.BN,T.Ax,Cu _ _,U,_,rfl,.inl (Ah.of Y),_,rfl,Om,Om,λp J=>cU (lo:=0) (n:=(((as.map V.ref).length:Nat):Int).toNat) (λi H'=>AN H H'/\LI H' p ((List.range i).filter λj=>Vbptal.meet (Vbptal.own e j) m !=0)) ⟨AI J,AB⟩ ?_ ?_⟩
 .rintro i H' hi ⟨B,hd⟩;have hi:i<e.length:=by rw[e1]at hi;simpa using hi
  refine⟨rfl,?_⟩;have ei:((0:Int)+(i:Nat))=((i:Nat):Int):=by lia
  rw[ei];refine⟨_,rfl,_,_,_,rfl,B _ _ h1,bD _ _ Dk Dk,_,rfl,a,e,t,i,rfl,L.mono B,ok,hi,_,rfl,_,_,rfl,rfl,rfl,_,rfl,?_⟩;rw[bf (fe e i)];refine Fi (λh=>⟨_,rfl,_,hd,?_,λb o e=>?_,?_⟩) (λh=>⟨B,?_⟩)
  .refine Az (xr ?_ (show 16<=1000000 by decide));have:=yI (λj=>Vbptal.meet (Vbptal.own e j) m !=0) (List.range i);rw[Am];rw[yl]at this;lia
  .rw[AG (AH e J)];exact B b o e
  .unfold LI;rw[AB,JH (p:=λj=>Vbptal.meet (Vbptal.own e j) m !=0) h];exact x3 (λz=>some (HO.lst z)) (B4 _ _).symm
  .rw[Gh (p:=λj=>Vbptal.meet (Vbptal.own e j) m !=0) h];exact hd
 .rintro H' ⟨B,hd⟩;have en:(((as.map V.ref).length:Nat):Int).toNat=e.length:=by rw[e1];simp
  rw[en]at hd;exact q H' p B J hd
inductive S7(D C:Addr)(vs:List V)(H:Hp)(Q:VK)(z3_:XK):Prop
 |mk (a b:Addr) (e:Vbptal.Edition) (t l:List Nat) (_:vs=[.ref a,.ref b]) (_:Jo D C H a e t) (_:Cc e) (_:LI H b l) (_:(∀i∈l,i<e.length)) (_:Q (vn (Vbptal.maskOf (l.flatMap λi=>Vbptal.topics (Vbptal.own e i)))) H)
theorem TC(T:Txt w K mg):FB P w mg base T.Lk 3 (S7 T.A1 T.AX):=by
 refine Ce T.Lk D8 λJ A j s H vs Q E L h=>?_;obtain⟨a,b,e,t,l,rfl,z,ok,B,n,q⟩:=h;obtain⟨dx,lt,N,h1,_⟩:=id z;refine⟨_,(AD (B6 2 D8.nd AL) (AD (Bc xo rfl (BE (pv 1)) (Dz 3 D8.nd) (AF (B6 2 D8.nd (Ap cu (pv 2) (HN L (pv 0) T.BN T.CT (CV T) (AA (pv 3) AE)))))) (AF (AK (pv 2))))),?_⟩;dsimp only[A0,Cx.Ck];refine⟨_,rfl,b,rfl,⟨_,B.sq⟩,Bh (K:=K) (a:=b) (xs:=Bs l) (λi σ H'=>H'=H/\∃v,σ=[some (.ref a),some (.ref b),some (vn (Vbptal.maskOf ((l.take i).flatMap λi=>Vbptal.topics (Vbptal.own e i)))),v]) ⟨rfl,_,rfl⟩ (λi σ H' _ h=>by rw[h.1];exact B.sq) ?_ ?_⟩
 .rintro i x σ H' M ⟨rfl,v,rfl⟩;obtain⟨c,I,rfl⟩:=FN M;refine⟨_,rfl,_,rfl,_,_,_,rfl,h1,bD _ _ Dk Dk,_,rfl,a,e,t,c,rfl,z,ok,n c (xO I),_,_,rfl,rfl,rfl,some (vn c),?_⟩;show[some (V.ref a),some (V.ref b),some (V.int (Builtin.bitOr (Vbptal.maskOf ((l.take i).flatMap λi=>Vbptal.topics (Vbptal.own e i)):Nat) ((Vbptal.own e c:Nat):Int))),some (vn c)]=_;rw[Ig,take_succ I,Vs]
 .rintro σ H' ⟨rfl,v,rfl⟩;refine⟨_,rfl,?_⟩;have e1:(Bs l).length=l.length:=by simp
  rw[e1,xm];exact q
inductive Kr(D C:Addr)(vs:List V)(H:Hp)(Q:VK)(z3_:XK):Prop
 |mk (a:Addr) (e:Vbptal.Edition) (t:List Nat) (m:Nat) (_:vs=[.ref a,vn m]) (_:Jo D C H a e t) (_:m<4096) (_:Q (vn (Vbptal.loose e m)) H)
theorem Ku(T:Txt w K mg):FB P w mg base T.Fd 2 (Kr T.A1 T.AX):=by
 refine Ce T.Fd CU λJ A j s H vs Q E L h=>?_;obtain⟨a,e,t,m,rfl,⟨dx,lt,z,h1,h2,as,B,I⟩,M,q⟩:=h;refine⟨_,(AD (B6 2 CU.nd (pv 1)) (AD (Bc xo rfl (BE (AO (pv 0) rfl)) (Dz 3 CU.nd) (AF (B6 2 CU.nd (CI L (OB T) T.RD (AA (pv 2) (AA (AO (pv 3) rfl) AE)))))) (AF (AK (pv 2))))),?_⟩;dsimp only[A0,Cx.Ck];refine⟨_,rfl,?_⟩;refine⟨_,rfl,_,_,_,_,_,rfl,h1,T.BN,T.Ax,Cu _ _,z,rfl,⟨_,Ah.of B⟩,Bh (K:=K) (a:=z) (xs:=as.map V.ref) (λi σ H'=>H'=H/\∃v,σ=[some (.ref a),some (vn m),some (vn (GY e m i)),v]) ⟨rfl,none,?_⟩ (λi σ H' _ h=>by rw[h.1];exact Ah.of B) ?_ ?_⟩
 .rw[Yf e M];rfl
 .rintro i x σ H' N ⟨rfl,v,rfl⟩;obtain⟨b,O,rfl⟩:=BK N;obtain⟨d,hd,U,ld,n,_⟩:=Av i b I O;refine⟨_,rfl,_,rfl,_,_,_,_,_,rfl,n,T.Aa,T.Ae,Bt _ _ _,_,_,rfl,fo e m i,rfl,some (.ref b),?_⟩;rw[YH hd];rfl
 .rintro σ H' ⟨rfl,v,rfl⟩;refine⟨_,rfl,?_⟩;have e1:(as.map V.ref).length=e.length:=by rw[xH];exact AR I
  rw[e1,cQ];exact q
def Kz:Option Nat->V
 |none=>.int (-1)
 |some i=>vn i
inductive M5(D C:Addr)(vs:List V)(H:Hp)(Q:VK)(z3_:XK):Prop
 |mk (a:Addr) (e:Vbptal.Edition) (t:List Nat) (m:Nat) (_:vs=[.ref a,vn m]) (_:Jo D C H a e t) (_:Cc e) (_:m<4096) (_:∀H',AN H H'->Q (Kz (Vbptal.holder e m)) H')
def Near(e:Vbptal.Edition)(m i:Nat)(b f:V):Prop:=(narrow e m i=[]/\b=.int (-1))\/∃j,best e (narrow e m i) j/\b=vn j/\f=vn (Vbptal.size (Vbptal.maskAt e j))
abbrev wX(a:Addr)(m:Nat)(e:Vbptal.Edition)(H:Hp):Nat->L2.St->Hp->Prop:=λi σ H'=>AN H H'/\∃(b f:V)(v1 j n:Option V),σ=[some (.ref a),some (vn m),some b,some f,v1,j,n]/\(∃q:Int,f=.int q)/\Near e m i b f
theorem M7(T:Txt w K mg):FB P w mg base T.HJ 3 (M5 T.A1 T.AX):=by
 refine Ce T.HJ BM λae A N s H vs Q E hr h=>?_;obtain⟨a,e,t,m,rfl,⟨dx,lt,lc,h1,h2,as,h3,h4⟩,ok,hm,q⟩:=h;refine⟨_,(AD (B6 2 BM.nd (gi T.DA)) (AD (B6 3 BM.nd AL) (AD (Bc xo rfl (PN rfl T.EU (AA (AO (pv 0) rfl) AE)) (DT rfl (Ak (Dz 4 BM.nd) (Ak (Dz 5 BM.nd) CY))) (AF (Ab (CA A5 (CI hr (OB T) T.RD (AA (pv 1) (AA (AO (pv 5) rfl) AE))) AL) (AD (B6 6 BM.nd (CI hr (Ue T) T.XM (AA (AO (pv 5) rfl) AE))) (AF (Ab (PW.pt (Ds (CA A5 (pv 2) (gi T.DA)) (DC (CA Kb (pv 6) (pv 3))))) (AD (B6 2 BM.nd (pv 4)) (AF (B6 3 BM.nd (pv 6)))) AQ))) AQ))) (AF (AK (pv 2)))))),?_⟩;dsimp only[A0,Cx.Ck];refine⟨_,rfl,_,_,_,_,_,rfl,h1,T.BN,T.Ax,Cu _ _,lc,_,rfl,Ah.of h3,L6 (K:=K) (a:=lc) (xs:=as.map V.ref)
  (wX a m e H) ⟨AN.refl _,_,_,_,_,_,rfl,⟨_,rfl⟩,.inl ⟨rfl,rfl⟩⟩ (λi σ H' _ h=>h.1.seq (Ah.of h3)) ?_ ?_⟩
 .rintro i x σ H' T0 hx ⟨O,b,f,v1,v2,v3,rfl,⟨fi,rfl⟩,J⟩ hT;obtain⟨c,hc,rfl⟩:=BK hx;obtain⟨d,hd,dd,ld,L,_⟩:=Av i c h4 hc;have z:AN H (upd H' T0 (.tup [vn i,.ref c])):=O.trans (AI hT);have n:=Dl hd;refine⟨T0,_,rfl,Cd.of AB,rfl,_,_,rfl,_,_,rfl,rfl,?_⟩;refine⟨_,rfl,_,rfl,_,_,_,_,_,rfl,z _ _ L,T.Aa,T.Ae,Bt _ _ _,_,_,rfl,hm,rfl,_,rfl,?_⟩;have ew:decide (vn (Vbptal.less m d.mask)=V.int 0)=Vbptal.within_ m (Vbptal.maskAt e i):=by
   rw[br,n,Er];by_cases h:Vbptal.less m d.mask=0
   .simp[h]
   .simp[h]<;> lia
  show if decide (vn (Vbptal.less m d.mask)=V.int 0)=true then _ else _
  rw[ew];refine Fi (λM=>?_) (λM=>?_)
  .refine⟨_,rfl,_,_,_,_,_,rfl,z _ _ L,T.Aa,T.Ae,Bt _ _ _,_,rfl,λH2 s2=>?_⟩;have B:=z.trans s2;refine⟨_,rfl,?_,_,rfl,?_⟩
   .rcases J with⟨_,rfl⟩|⟨j,_,rfl,_⟩<;> rfl
   rcases J with⟨U,rfl⟩|⟨j,I,rfl,hf⟩
   .refine EG (EG ⟨_,rfl,_,rfl,B,_,_,_,_,_,rfl,⟨_,rfl⟩,.inr ⟨i,?_,rfl,by rw[n]⟩⟩);exact bK M λj I=>by rw[U]at I;simp at I
   .have Y:fi=((Vbptal.size (Vbptal.maskAt e j):Nat):Int):=by injection hf
    have aa:decide (vn j=V.int (-1))=false:=by rw[Er];exact yF.mpr Om
    rw[aa];refine ED ⟨_,rfl,_,rfl,_,_,rfl,rfl,_,rfl,?_⟩;rw[Y];refine Fi (λh=>?_) (λh=>?_)
    .have h':Vbptal.size d.mask<=Vbptal.size (Vbptal.maskAt e j):=by have:=xI h;lia
     refine⟨_,rfl,_,rfl,B,_,_,_,_,_,rfl,⟨_,rfl⟩,.inr ⟨i,bK M ?_,rfl,by rw[n]⟩⟩;rw[n];exact mw I h'
    .refine⟨B,_,_,_,_,_,rfl,⟨_,rfl⟩,.inr ⟨j,iu M I ?_,rfl,rfl⟩⟩;rw[n];intro q;exact h (xR Om)
  .refine⟨z,_,_,_,_,_,rfl,⟨_,rfl⟩,?_⟩;have ab:Vbptal.within_ m (Vbptal.maskAt e i)=false:=by simpa using M
   unfold Near;rw[jQ ab];exact J
 .rintro σ H' ⟨O,b,f,v1,v2,v3,rfl,⟨fi,rfl⟩,J⟩;refine⟨_,rfl,?_⟩;have e1:(as.map V.ref).length=e.length:=by rw[xH];exact AR h4
  rw[e1]at J;have:b=Kz (Vbptal.holder e m):=by
   rcases J with⟨U,rfl⟩|⟨j,I,rfl,_⟩
   .rw[bI U];rfl
   .rw[cX I];rfl
  rw[this];exact q H' O
end
theorem Fn(l:List Nat):Bs l=(l.map λn:Nat=>(n:Int)).map V.int:=by unfold Bs;rw[yg];rfl
theorem OF:∀l:List Int,Vbptal.upward l=true↔∀(k:Nat)(x y:Int),l[k]?=some x->l[k+1]?=some y->x<y
 |[]=>by simp[Vbptal.upward]
 |[a]=>by simp[Vbptal.upward]
 |a::b::l=>by
  unfold Vbptal.upward;rw[x4,yN,OF (b::l)];constructor
  .rintro⟨h1,h2⟩ k x y j n;cases k with
   |zero=>simp at j n;subst j n;exact h1
   |succ k=>exact h2 k x y (by simpa using j) (by simpa using n)
  .intro h;exact⟨h 0 a b rfl rfl,λk x y j n=>h (k+1) x y (by simpa using j) (by simpa using n)⟩
section
variable{P:Program}{w:World}{K:PySem.W.Frag}{mg:Str->Option Value}{base:Heap}
inductive Xz(K:PySem.W.Frag)(vs:List V)(H:Hp)(Q:VK)(z3_:XK):Prop
 |mk (a:Addr) (ns:List Int) (m:Int) (_:vs=[.ref a,.int m]) (_:Ah K H a (ns.map V.int)) (_:Q (.bl (ns.all λv=>decide (0<=v) && decide (v<=m))) H)
theorem Pg(T:Txt w K mg):FB P w mg base T.SO 1 (Xz K):=by
 refine Ce T.SO PX λJ A z s H vs Q E N h=>?_;obtain⟨a,ns,m,rfl,B,q⟩:=h;refine⟨_,(AD (Bc xo rfl (BE (pv 0)) (Dz 2 PX.nd) (AF (Ab (PW.pt (Ds (CA Nz (pv 2) AL) (DC (CA HV (pv 2) (pv 1))))) (AF (AK DN)) AQ))) (AF (AK DN))),?_⟩;dsimp only[A0,Cx.Ck];refine⟨_,rfl,a,rfl,⟨_,B⟩,Bh (K:=K) (a:=a) (xs:=ns.map V.int) (λi σ H'=>H'=H/\(∃v,σ=[some (.ref a),some (.int m),v])/\((ns.take i).all λv=>decide (0<=v) && decide (v<=m))=true) ⟨rfl,⟨_,rfl⟩,rfl⟩ (λi σ H' _ h=>by rw[h.1];exact B) ?_ ?_⟩
 .rintro i x σ H' L ⟨rfl,⟨v,rfl⟩,j⟩;obtain⟨n,I,rfl⟩:=ints_get L;have bad:(decide (0<=n) && decide (n<=m))=false->Q (.bl false) H':=λh=>by
   have:(ns.all λv=>decide (0<=v) && decide (v<=m))=false:=by apply ze.mpr;intro M;rw[xk.mp M n (xO I)]at h;cases h
   rw[this]at q;exact q
  refine⟨_,rfl,_,_,rfl,rfl,_,rfl,Fi (λh=>EG ?_) (λh=>?_)⟩
  .exact bad (by simp;intro q;have:=xI h;lia)
  .refine⟨_,rfl,_,rfl,_,_,rfl,rfl,_,rfl,Fi (λh2=>?_) (λh2=>?_)⟩
   .exact bad (by simp;intro _;have:=xI h2;lia)
   .refine⟨rfl,⟨_,rfl⟩,?_⟩;rw[take_succ I,AAJ,j];simp;refine⟨?_,?_⟩
    .apply yL;intro q;exact h (xR Om)
    .apply yL;intro q;exact h2 (xR Om)
 .rintro σ H' ⟨rfl,⟨v,rfl⟩,j⟩;rw[xH,xm]at j;rw[j]at q;exact q
inductive dM(K:PySem.W.Frag)(vs:List V)(H:Hp)(Q:VK)(z3_:XK):Prop
 |mk (a:Addr) (ns:List Int) (_:vs=[.ref a]) (_:Ah K H a (ns.map V.int)) (_:ns.length<=1000000) (_:Q (.bl (Vbptal.upward ns)) H)
theorem VZ(T:Txt w K mg):FB P w mg base T.W3 1 (dM K):=by
 refine Ce T.W3 Tr λU A J s H vs Q E hr h=>?_;obtain⟨a,ns,rfl,L,O,q⟩:=h;refine⟨_,(AD (Bc xo rfl (Wz rfl T.TV (AA AL (AA (IM T.Be (pv 0)) AE))) (Dz 1 Tr.nd) (AF (Ab (CA Kb (Cv (pv 0) (pv 1)) (Cv (pv 0) (Ap IH (pv 1) AL))) (AF (AK DN)) AQ))) (AF (AK DN))),?_⟩;dsimp only[A0,Cx.Ck];refine⟨_,rfl,a,_,rfl,.inl L,1,_,rfl,⟨Dc,Dc,by rw[xH];lia,by rw[xH];lia⟩,W9 (lo:=1) (n:=((((ns.map V.int).length:Nat):Int) - 1).toNat) (λi σ H'=>H'=H/\(∃v,σ=[some (.ref a),v])/\∀(k:Nat)(x y:Int),k<i->ns[k]?=some x->ns[k+1]?=some y->x<y) ⟨rfl,⟨_,rfl⟩,λk x y h=>by lia⟩ ?_ ?_⟩
 .rintro i σ H' hi ⟨rfl,⟨v,rfl⟩,z⟩;have M:i+1<ns.length:=by simp at hi;lia
  have N:ns[i]?=some ns[i]:=xW Om;have h1:ns[i+1]?=some ns[i+1]:=xW M;refine⟨_,rfl,_,rfl,a,_,_,_,rfl,rfl,L,at_of (j:=i+1) Om (by rw[xh,h1];rfl),_,rfl,_,rfl,_,_,rfl,rfl,a,_,_,_,rfl,rfl,L,at_of (j:=i) Om (by rw[xh,N];rfl),_,_,rfl,rfl,_,rfl,Fi (λh=>?_) (λh=>?_)⟩
  .have:Vbptal.upward ns=false:=by
    apply ze.mpr;intro Y;have:=(OF ns).mp Y i _ _ N h1;have:=xI h;lia
   rw[this]at q;exact q
  .refine⟨rfl,⟨_,rfl⟩,λk x y hk I B=>?_⟩;by_cases e:k=i
   .subst e;rw[N]at I;rw[h1]at B;cases I;cases B;apply yL;intro q;exact h (xR Om)
   .exact z k x y Om I B
 .rintro σ H' ⟨rfl,⟨v,rfl⟩,z⟩;have:Vbptal.upward ns=true:=(OF ns).mpr λk x y I B=>z k x y (by
   have:=(xP.mp B).1;simp;lia) I B
  rw[this]at q;exact q
inductive Z0(vs:List V)(H:Hp)(Q:VK)(z3_:XK):Prop
 |mk (a:Addr) (l:List Nat) (c:Nat) (_:vs=[.ref a,vn c]) (_:LI H a l) (_:l.length<=100000) (_:∀H' p,AN H H'->H p=none->B5 (fresh H H') p (Vbptal.cut c l)->Q (.ref p) H')
theorem ZU(c:Nat):∀l:List Nat,(Vbptal.cut c l).length<=l.length+1
 |[]=>by simp[Vbptal.cut]
 |x::l=>by
  have j:=ZU c l;by_cases h:x=c
  .subst h;rw[FJ];simp;lia
  .cases e:Vbptal.cut c l with
   |nil=>exact absurd e (EJ c l)
   |cons p r=>rw[Df h e];rw[e]at j;simp at j⊢;lia
theorem Oq(c:Nat):∀(l p:List Nat),p∈Vbptal.cut c l->p.length<=l.length
 |[],p,h=>by simp[Vbptal.cut]at h;subst h;simp
 |x::l,p,h=>by
  by_cases n:x=c
  .subst n;rw[FJ]at h;rcases xb.mp h with e|e
   .subst e;simp
   .have:=Oq x l p e;simp;lia
  .cases e:Vbptal.cut c l with
   |nil=>exact absurd e (EJ c l)
   |cons q r=>
    rw[Df n e]at h;rcases xb.mp h with j|j
    .subst j;have:=Oq c l q (by rw[e];simp);simp;lia
    .have:=Oq c l p (by rw[e];simp[j]);simp;lia
abbrev vl(a p:Addr)(c:Nat)(l:List Nat)(H:Hp):Nat->L2.St->Hp->Prop:=λi σ H'=>∃(r:Addr)(as:List Addr)(ps:List (List Nat))(t:List Nat)(v:Option V),σ=[some (.ref a),some (vn c),some (.ref p),some (.ref r),v]/\AN H H'/\H r=none/\r≠p/\H' p=some (.lst (as.map V.ref))/\LI H' r t/\Vbptal.cut c (l.take i)=ps++[t]/\Paired (LI (Bl [p,r] (fresh H H'))) as ps
theorem Hk(T:Txt w K mg):FB P w mg base T.Td 1 Z0:=by
 refine Ce T.Td Fj λao A aj s H vs Q E hr h=>?_;obtain⟨a,l,c,rfl,O,an,q⟩:=h;refine⟨_,(AD (B6 2 Fj.nd (AZ AE)) (AD (B6 3 Fj.nd (AZ AE)) (AD (Bc xo rfl (BE (pv 0)) (Dz 4 Fj.nd) (AF (Ab (CA A5 (pv 4) (pv 1)) (AD (A3 (Cn xa xw xx BD (pv 2) (AA (pv 3) AE))) (AF (B6 3 Fj.nd (AZ AE)))) (AF (A3 (Cn xa xw xx BD (pv 3) (AA (pv 4) AE))))))) (AD (A3 (Cn xa xw xx BD (pv 2) (AA (pv 3) AE))) (AF (AK (pv 2))))))),?_⟩;dsimp only[A0,Cx.Ck];refine⟨xi _,λp hp=>⟨xi _,λr U=>?_⟩⟩;have ag:H r=none:=by have:=AI (o:=.lst []) hp;exact this.free U
 have ah:p≠r:=λe=>by subst e;rw[AB]at U;cases U
 refine⟨_,rfl,a,rfl,⟨_,Ah.of (xs:=Bs l) ?_⟩,Bh (K:=K) (a:=a) (xs:=Bs l) (vl a p c l H)
   ⟨r,[],[],[],none,rfl,?_,ag,ah.symm,?_,AB,rfl,.nil⟩ ?_ ?_ ?_⟩
 .rw[AG,AG];exact O
  .intro e;rw[e]at O;unfold LI at O;rw[hp]at O;cases O
  .intro e;rw[e]at O;unfold LI at O;rw[ag]at O;cases O
 .exact(AI hp).trans (AI U)
 .rw[AG ah,AB];rfl
 .rintro i σ H' _ ⟨r,as,ps,t,v,_,hs,_⟩;exact Ah.of (hs _ _ O)
 .rintro i x σ H' hx ⟨r,as,ps,t,v,rfl,hs,M,J,hP,hR,B,j⟩;obtain⟨n,hn,rfl⟩:=FN hx;have ak:as.length=ps.length:=AR j;have am:ps.length+1<=i+1:=by
   have:=ZU c (l.take i);rw[B]at this;simp at this;lia
  have ap:i<l.length:=(xP.mp hn).1;refine⟨_,rfl,_,rfl,rfl,_,rfl,Fi (λh=>?_) (λh=>?_)⟩
  .have af:n=c:=by
    have:=xI h;injection this with this;lia
   subst af;refine⟨_,rfl,.inl ⟨rfl,_,Ah.of hP⟩,_,rfl,p,_,_,rfl,rfl,hP,Az (by rw[xH];lia),xi _,λr' Y=>?_⟩;have N:r'≠p:=λe=>by subst e;rw[AB]at Y;cases Y
   have I:H' r'=none:=by rw[AG N]at Y;exact Y
   have ai:H r'=none:=hs.free I;have ab:r'≠r:=λe=>by subst e;unfold LI at hR;rw[I]at hR;cases hR
   refine⟨r',as++[r],ps++[t],[],_,rfl,?_,ai,N,?_,AB,?_,?_⟩
   .intro b o e;have aa:b≠p:=AH e hp;rw[AG (AH (hs _ _ e) I),AG aa];exact hs _ _ e
   .rw[AG N.symm,AB];simp
   .rw[take_succ hn,QU,B]
   .refine BR (Paired.BO (λb z hz=>?_) j) ?_
    .unfold LI at hz⊢;have hb:b∉[p,r]:=λq=>by rw[Fv q]at hz;cases hz
     rw[As hb]at hz;have L:H b=none:=by
      cases z:H b with
      |none=>rfl
      |some u=>rw[Cj z]at hz;cases hz
     rw[Ay L]at hz;have ae:b≠r':=λe=>by subst e;rw[I]at hz;cases hz
     have aa:b≠p:=λe=>hb (by simp[e]);rw[As (by simp[ae,aa]),Ay L,AG ae,AG aa];exact hz
    .unfold LI;rw[As (by simp[ab.symm,J]),Ay M,AG ab.symm,AG J];exact hR
  .have af:n≠c:=λe=>h (by subst e;exact xR rfl);have aq:t.length<=l.length:=by
    have:=Oq c (l.take i) t (by rw[B];simp);rw[xt]at this;lia
   refine⟨_,rfl,.inl ⟨rfl,_,Ah.of hR⟩,_,rfl,r,_,_,rfl,rfl,hR,Az (by rw[xH];lia),?_⟩;refine⟨r,as,ps,t++[n],_,rfl,?_,M,J,?_,?_,?_,?_⟩
   .intro b o e;rw[AG (AH e M)];exact hs _ _ e
   .rw[AG J.symm];exact hP
   .unfold LI;rw[AB];simp[Bs]
   .rw[take_succ hn];exact Wj af B
   .refine Paired.BO (λb z hz=>?_) j;unfold LI at hz⊢;have hb:b∉[p,r]:=λq=>by rw[Fv q]at hz;cases hz
    rw[As hb]at hz⊢;have L:H b=none:=by
     cases z:H b with
     |none=>rfl
     |some u=>rw[Cj z]at hz;cases hz
    rw[Ay L]at hz⊢;rw[AG (λe=>hb (by simp[e]))];exact hz
 .rintro σ H' ⟨r,as,ps,t,v,rfl,hs,M,J,hP,hR,B,j⟩;have e1:(Bs l).length=l.length:=by simp
  rw[e1,xm]at B;have ak:as.length=ps.length:=AR j;have am:ps.length<=l.length:=by have:=ZU c l;rw[B]at this;simp at this;lia
  refine⟨_,rfl,.inl ⟨rfl,_,Ah.of hP⟩,_,rfl,p,_,_,rfl,rfl,hP,Az (by rw[xH];lia),_,rfl,?_⟩;refine q _ p ?_ hp ⟨as++[r],?_,?_⟩
  .intro b o e;rw[AG (AH e hp)];exact hs _ _ e
  .rw[Ay hp,AB];simp
  .rw[B];refine BR (Paired.BO (λb z hz=>?_) j) ?_
   .unfold LI at hz⊢;have hb:b∉[p,r]:=λq=>by rw[Fv q]at hz;cases hz
    rw[As hb]at hz;have L:H b=none:=by
     cases z:H b with
     |none=>rfl
     |some u=>rw[Cj z]at hz;cases hz
    rw[Ay L]at hz⊢;rw[AG (λe=>hb (by simp[e]))];exact hz
   .unfold LI;rw[Ay M,AG J];exact hR
inductive cB(vs:List V)(H:Hp)(Q:VK)(z3_:XK):Prop
 |mk (n:Nat) (_:vs=[vn n]) (_:Q (.bl (Vbptal.isDigit n)) H)
theorem Hy(T:Txt w K mg):FB P w mg base T.UL 1 cB:=by
 refine Ce T.UL cJ λB A j s H vs Q E I h=>?_;obtain⟨n,rfl,q⟩:=h;refine⟨_,(AF (AK (cH Kb Kb (gi T.fN) (pv 0) (gi T.rV)))),?_⟩;unfold Vbptal.isDigit at q;refine⟨_,rfl,_,_,rfl,rfl,_,rfl,Fi (λh=>?_) (λh=>?_)⟩
 .refine⟨_,_,rfl,rfl,?_⟩;have h1:48<=n:=by have:=xI h;lia
  rw[xR h1,yP]at q;have:decide ((n:Int)<=57)=decide (n<=57):=by
   by_cases e:n<=57
   .rw[xR e,xR Om]
   .rw[xV e,xV Om]
  show Q (.bl (decide ((n:Int)<=57))) H;rw[this];exact q
 .have h1:¬48<=n:=λz=>h (xR Om);rw[xV h1,zU]at q;exact q
inductive Vl(vs:List V)(H:Hp)(Q:VK)(z3_:XK):Prop
 |mk (n:Nat) (_:vs=[vn n]) (_:Q (.bl (Vbptal.isCapital n)) H)
theorem NY(T:Txt w K mg):FB P w mg base T.PD 1 Vl:=by
 refine Ce T.PD WN λB A j s H vs Q E I h=>?_;obtain⟨n,rfl,q⟩:=h;refine⟨_,(AF (AK (cH Kb Kb (gi T.Zr) (pv 0) (gi T.a9)))),?_⟩;unfold Vbptal.isCapital at q;refine⟨_,rfl,_,_,rfl,rfl,_,rfl,Fi (λh=>?_) (λh=>?_)⟩
 .refine⟨_,_,rfl,rfl,?_⟩;have h1:65<=n:=by have:=xI h;lia
  rw[xR h1,yP]at q;have:decide ((n:Int)<=90)=decide (n<=90):=by
   by_cases e:n<=90
   .rw[xR e,xR Om]
   .rw[xV e,xV Om]
  show Q (.bl (decide ((n:Int)<=90))) H;rw[this];exact q
 .have h1:¬65<=n:=λz=>h (xR Om);rw[xV h1,zU]at q;exact q
theorem ZJ(l:List Nat):Vbptal.isCode l=(decide (0<l.length) && (decide (l.length<=6) && ((!(Vbptal.isDigit (l.headD 0))) && l.all λx=>Vbptal.isCapital x|| Vbptal.isDigit x))):=by
 cases l with
 |nil=>rfl
 |cons c r=>
  unfold Vbptal.isCode;simp only[xg,ACB,yn];have hd:Vbptal.isDigit c=true->Vbptal.isCapital c=false:=by unfold Vbptal.isDigit Vbptal.isCapital;intro h;simp at h⊢;intro;lia
  cases h1:Vbptal.isDigit c<;> cases h2:Vbptal.isCapital c<;> cases j:(r.all λx=>Vbptal.isCapital x|| Vbptal.isDigit x)<;> simp_all
inductive dq(vs:List V)(H:Hp)(Q:VK)(z3_:XK):Prop
 |mk (a:Addr) (l:List Nat) (_:vs=[.ref a]) (_:LI H a l) (_:Q (.bl (Vbptal.isCode l)) H)
theorem ez(T:Txt w K mg):FB P w mg base T.Xc 2 dq:=by
 refine Ce T.Xc Ud λaa A M s H vs Q E N h=>?_;obtain⟨a,l,rfl,I,q⟩:=h;refine⟨_,(AD (Ab (PW.pt (Ds (CA A5 (IM T.Be (pv 0)) AL) (Ds (CA HV (IM T.Be (pv 0)) (gi T.Uq)) (DC (A7 (CI N (Hy T) T.Jh (AA (Cv (pv 0) AL) AE))))))) (AF (AK DN)) AQ) (AD (Bc xo rfl (BE (pv 0)) (Dz 1 Ud.nd) (AF (Ab (PW.pt (J2 (Ba (A7 (CI N (NY T) T.Qc (AA (pv 1) AE)))) (GX (Ba (A7 (CI N (Hy T) T.Jh (AA (pv 1) AE))))))) (AF (AK DN)) AQ))) (AF (AK DN)))),?_⟩;dsimp only[A0,Cx.Ck];rw[ZJ]at q;have e1:(Bs l).length=l.length:=by simp
 refine⟨_,rfl,a,_,rfl,.inl I.sq,rfl,_,rfl,Fi (λh=>EG ?_) (λh=>?_)⟩
 .have O:l.length=0:=by
   have:=xI h;injection this with this
   rw[e1]at this;lia
  have:decide (0<l.length)=false:=xV Om;rw[this,zU]at q;exact q
 .have O:0<l.length:=by
   have:¬(V.int (((Bs l).length:Nat):Int)=V.int 0):=λz=>h (xR z);rw[e1]at this;apply yL;intro z;exact this (by rw[show l.length=0 by lia];rfl)
  rw[xR O,yP]at q;refine⟨_,rfl,a,_,rfl,.inl I.sq,_,_,rfl,rfl,_,rfl,Fi (λh2=>EG ?_) (λh2=>?_)⟩
  .have:¬l.length<=6:=by
    have:=xI h2;rw[e1]at this;lia
   rw[xV this,zU]at q;exact q
  .have h6:l.length<=6:=by
    apply yL;intro z;exact h2 (xR (by rw[e1];lia))
   rw[xR h6,yP]at q;obtain⟨c,r,rfl⟩:∃c r,l=c::r:=by
    cases l with
    |nil=>simp at O
    |cons c r=>exact⟨c,r,rfl⟩
   refine⟨_,rfl,a,_,_,_,rfl,rfl,I.sq,at_of (j:=0) rfl rfl,c,rfl,_,rfl,Fi (λU=>?_) (λU=>?_)⟩
   .rw[ACB,U]at q;exact q
   .have Y:Vbptal.isDigit c=false:=by simpa using U
    rw[ACB,Y]at q;simp only[Bool.not_false,yP]at q;refine⟨_,rfl,a,rfl,⟨_,I.sq⟩,Bh (K:=K) (a:=a) (xs:=Bs (c::r)) (λi σ H'=>H'=H/\(∃v,σ=[some (.ref a),v])/\(((c::r).take i).all λx=>Vbptal.isCapital x|| Vbptal.isDigit x)=true) ⟨rfl,⟨_,rfl⟩,rfl⟩ (λi σ H' _ h=>by rw[h.1];exact I.sq) ?_ ?_⟩
    .rintro i x σ H' hx ⟨rfl,⟨v,rfl⟩,B⟩;obtain⟨n,hn,rfl⟩:=FN hx;have good:(Vbptal.isCapital n|| Vbptal.isDigit n)=true->(((c::r).take (i+1)).all λx=>Vbptal.isCapital x|| Vbptal.isDigit x)=true:=λh=>by
      rw[take_succ hn,AAJ,B];simp at h⊢;exact h
     refine⟨_,rfl,n,rfl,_,rfl,Fi (λJ=>⟨_,rfl,n,rfl,_,rfl,Fi (λL=>?_) (λL=>?_)⟩) (λJ=>ED ⟨rfl,⟨_,rfl⟩,good ?_⟩)⟩
     .have:((c::r).all λx=>Vbptal.isCapital x|| Vbptal.isDigit x)=false:=by
       apply ze.mpr;intro z;have:=xk.mp z n (xO hn);simp at J L this;rw[J,L]at this;simp at this
      rw[this]at q;exact q
     .exact⟨rfl,⟨_,rfl⟩,good (by simp at L;simp[L])⟩
     .simp at J;simp[J]
    .rintro σ H' ⟨rfl,⟨v,rfl⟩,B⟩;have e2:(Bs (c::r)).length=(c::r).length:=by simp
     rw[e2,xm]at B;rw[B]at q;exact q
theorem bh(l:List Nat)(c:Nat):decVal (l++[c])=10*decVal l+(c - 48):=by unfold decVal;rw[AAO];rfl
noncomputable def kK:List Nat->Bool
 |[]=>true
 |[_]=>false
 |x::_::_=>decide (x=48)
theorem ib(h:kK l=true):Dy l= -1:=by
 unfold Dy
 match l,h with
 |[],_=>rfl
 |x::y::r,h=>rw[xQ (Or.inr (Or.inl ⟨by simp,by simp;exact xI h⟩))]
theorem fj(h:kK l=false):Dy l=if l.all Vbptal.isDigit=false then -1 else(decVal l:Int):=by
 unfold Dy
 match l,h with
 |[x],_=>simp
 |x::y::r,h=>have:¬x=48:=xc h;simp[this]
inductive Sw(vs:List V)(H:Hp)(Q:VK)(z3_:XK):Prop
 |mk (a:Addr) (l:List Nat) (_:vs=[.ref a]) (_:LI H a l) (_:Q (.int (Dy l)) H)
theorem KO(T:Txt w K mg):FB P w mg base T.K2 2 Sw:=by
 refine Ce T.K2 EB λM A J s H vs Q E N h=>?_;obtain⟨a,l,rfl,I,q⟩:=h;refine⟨_,(AD (Ab (PW.pt (Ds (CA A5 (IM T.Be (pv 0)) AL) (DC (PW.pt (J2 (CA HV (IM T.Be (pv 0)) AL) (GX (CA A5 (Cv (pv 0) AL) (gi T.fN)))))))) (AF (AK (Ln Gv AL))) AQ) (AD (B6 1 EB.nd AL) (AD (Bc xo rfl (BE (pv 0)) (Dz 2 EB.nd) (AD (Ab (Ba (A7 (CI N (Hy T) T.Jh (AA (pv 2) AE)))) (AF (AK (Ln Gv AL))) AQ) (AF (B6 1 EB.nd (Ap IH (Ap EK (Ap dh (pv 1) AL) (pv 2)) (gi T.fN)))))) (AF (AK (pv 1)))))),?_⟩;dsimp only[A0,Cx.Ck];have e1:(Bs l).length=l.length:=by simp
 refine lK (kK l) (λQ q=>?_) (λh=>?_) (λh=>?_)
 .clear e1
  match l,I,q with
  |[],I,q=>exact⟨_,rfl,a,_,rfl,.inl I.sq,rfl,_,rfl,EG q⟩
  |[x],I,q=>exact⟨_,rfl,a,_,rfl,.inl I.sq,rfl,_,rfl,ED ⟨_,rfl,a,_,rfl,.inl I.sq,_,_,rfl,rfl,_,rfl,ED q⟩⟩
  |x::y::r,I,q=>
   refine⟨_,rfl,a,_,rfl,.inl I.sq,rfl,_,rfl,Fi (λh=>?_) (λ_=>⟨_,rfl,a,_,rfl,.inl I.sq,_,_,rfl,rfl,_,rfl,Fi (λ_=>?_) (λh=>?_)⟩)⟩
   .have:=xI h;injection this with this
    simp at this;lia
   .refine⟨_,rfl,a,_,_,_,rfl,rfl,I.sq,at_of (j:=0) rfl rfl,rfl,_,rfl,?_⟩;have:decide (vn x=V.int 48)=decide (x=48):=by
     rw[Er];by_cases h:x=48
     .simp[h]
     .simp[h];lia
    rw[this];exact q
   .exact absurd (xR (by simp;lia)) h
 .refine⟨_,rfl,?_⟩;rw[ib h]at q;exact q
 .rw[fj h]at q;refine⟨_,rfl,a,rfl,⟨_,I.sq⟩,Bh (K:=K) (a:=a) (xs:=Bs l) (λi σ H'=>H'=H/\(∃v,σ=[some (.ref a),some (vn (decVal (l.take i))),v])/\(l.take i).all Vbptal.isDigit=true) ⟨rfl,⟨_,rfl⟩,rfl⟩ (λi σ H' _ h=>by rw[h.1];exact I.sq) ?_ ?_⟩
  .rintro i x σ H' O ⟨rfl,⟨v,rfl⟩,B⟩;obtain⟨n,L,rfl⟩:=FN O;refine lK (!Vbptal.isDigit n) (λQ q=>⟨_,rfl,n,rfl,_,rfl,q⟩) (λh=>?_) (λh=>?_)
   .have:l.all Vbptal.isDigit=false:=by
     apply ze.mpr;intro z;rw[xk.mp z n (xO L)]at h;cases h
    rw[xQ this]at q;exact⟨_,rfl,q⟩
   .have hd:Vbptal.isDigit n=true:=by simpa using h
    have U:48<=n/\n<=57:=by unfold Vbptal.isDigit at hd;simpa using hd
    refine⟨_,rfl,_,_,rfl,rfl,.inr ⟨Dc,Dc⟩,_,rfl,_,_,rfl,rfl,_,_,rfl,rfl,rfl,⟨some (vn n),?_⟩,?_⟩
    .show[some (V.ref a),some (V.int (((decVal (l.take i):Nat):Int)*10+(n:Int) - 48)),some (vn n)]=_;have:((decVal (l.take i):Nat):Int)*10+(n:Int) - 48=((decVal (l.take (i+1)):Nat):Int):=by
      rw[take_succ L,bh];lia
     rw[this]
    .rw[take_succ L,AAJ,B];simp[hd]
  .rintro σ H' ⟨rfl,⟨v,rfl⟩,B⟩;refine⟨_,rfl,?_⟩;rw[e1,xm]at B⊢;rw[xJ (by rw[B];decide)]at q;exact q
end
noncomputable def R0(l:List Nat):PyData:=.list (l.map λ(n:Nat)=>PyData.int (n:Int))
theorem gI{K:PySem.W.Frag}{H:Hp}{a:Addr}{l:List Nat}(h:LI H a l):Dp K H (.ref a) (R0 l):=by
 refine .lst h.sq ?_;clear h
 induction l with
 |nil=>exact .nil
 |cons n l j=>exact .cons (.int _) j
theorem lay_ints:∀l:List Nat,PyData.canLayAll0 (l.map λ(n:Nat)=>PyData.int (n:Int))=true
 |[]=>by simp[PyData.canLayAll0]
 |n::l=>by simp[PyData.canLayAll0,PyData.canLay0,lay_ints l]
theorem cG:∀l m:List Nat,PyData.eqvAll (l.map λ(n:Nat)=>PyData.int (n:Int)) (m.map λ(n:Nat)=>PyData.int (n:Int))=decide (l=m)
 |[],[]=>by simp[PyData.eqvAll]
 |[],_::_=>by simp[PyData.eqvAll]
 |_::_,[]=>by simp[PyData.eqvAll]
 |a::l,b::m=>by
  have j:=cG l m;simp only[yE,PyData.eqvAll,PyData.eqv,j];by_cases h:a=b
  .subst h;simp
  .have:¬((a:Int)=(b:Int)):=by lia
   simp[h,this]
theorem j1(l m:List Nat):PyData.eqv (R0 l) (R0 m)=decide (l=m):=by unfold R0;rw[PyData.eqv];exact cG l m
theorem cx(h:∀(j:Nat)(c:Vbptal.Class),j<i->e[j]?=some c->c.code≠t)(hi:e[i]?=some c)(z:c.code=t):Vbptal.placeOf e t=some i:=by unfold Vbptal.placeOf;rw[List.find?_range_eq_some];have q:=(xP.mp hi).1;refine⟨by rw[hi];simp[z],by simpa using q,λj B=>?_⟩;have n:e[j]?=some e[j]:=xW Om;rw[n];simp;exact h j _ B n
theorem X1(h:∀(j:Nat)(c:Vbptal.Class),e[j]?=some c->c.code≠t):Vbptal.placeOf e t=none:=by
 unfold Vbptal.placeOf;rw[AAI];intro j z;have q:j<e.length:=by simpa using z
 have n:e[j]?=some e[j]:=xW q;rw[n];simp;exact h j _ n
theorem oS:decide (V.int (lC o)=V.int (lC u))=(o==u):=by
 rw[Er];cases o with
 |none=>cases u with
  |none=>rfl
  |some j=>show((-1:Int)==(j:Int))=false;exact yF.mpr Om
 |some i=>cases u with
  |none=>show((i:Int)==(-1:Int))=false;exact yF.mpr Om
  |some j=>
   show((i:Int)==(j:Int))=(i==j);by_cases h:i=j
   .subst h;simp
   .rw[show((i:Int)==(j:Int))=false from yF.mpr Om,show(i==j)=false from yF.mpr h]
theorem VO:∀l:List Nat,PyData.depthAll (l.map λ(n:Nat)=>PyData.int (n:Int))=0
 |[]=>by simp[PyData.depthAll]
 |n::l=>by simp[PyData.depthAll,PyData.depth,VO l]
section
variable{P:Program}{w:World}{K:PySem.W.Frag}{mg:Str->Option Value}{base:Heap}
theorem shaped_ints(l:List Nat):SeqAt.shaped (R0 l)=true:=by unfold SeqAt.shaped R0;rw[x4];refine⟨by rw[PyData.canLay0];exact lay_ints l,?_⟩;apply xR;rw[PyData.depth,VO];decide
inductive RP(C:Addr)(vs:List V)(H:Hp)(Q:VK)(z3_:XK):Prop
 |mk (a b:Addr) (t:List Nat) (e:Vbptal.Edition) (_:vs=[.ref a,.ref b]) (_:LI H a t) (_:Ju C H b e) (_:∀H',AN H H'->Q (Kz (Vbptal.placeOf e t)) H')
abbrev wW(a b:Addr)(H:Hp)(e:Vbptal.Edition)(t:List Nat):Nat->L2.St->Hp->Prop:=λi σ H'=>AN H H'/\(∃v1 n:Option V,σ=[some (.ref a),some (.ref b),v1,n])/\∀(j:Nat)(c:Vbptal.Class),j<i->e[j]?=some c->c.code≠t
theorem FD(T:Txt w K mg):FB P w mg base T.KS 1 (RP T.AX):=by
 refine Ce T.KS FC λaa A M s H vs Q E hr h=>?_;obtain⟨a,b,t,e,rfl,ht,⟨as,Y,h4⟩,q⟩:=h;refine⟨_,(AD (Bc xo rfl (PN rfl T.EU (AA (pv 1) AE)) (DT rfl (Ak (Dz 2 FC.nd) (Ak (Dz 3 FC.nd) CY))) (AF (Ab (CA (qN hr.units) (AO (pv 3) rfl) (pv 0)) (AF (AK (pv 2))) AQ))) (AF (AK (gi T.DA)))),?_⟩;dsimp only[A0,Cx.Ck];refine⟨_,rfl,b,_,rfl,Ah.of Y,L6 (K:=K) (a:=b) (xs:=as.map V.ref)
  (wW a b H e t) ⟨AN.refl _,⟨_,_,rfl⟩,λj c h=>by lia⟩ (λi σ H' _ h=>h.1.seq (Ah.of Y)) ?_ ?_⟩
 .rintro i x σ H' T0 hx ⟨N,⟨v1,v2,rfl⟩,n⟩ hT;obtain⟨c,L,rfl⟩:=BK hx;obtain⟨d,hd,dd,ld,O,U⟩:=Av i c h4 L;have B:AN H (upd H' T0 (.tup [vn i,.ref c])):=N.trans (AI hT);refine⟨T0,_,rfl,Cd.of AB,rfl,_,_,rfl,_,_,rfl,rfl,?_⟩;refine⟨_,rfl,_,_,_,_,_,rfl,B _ _ O,T.Aa,T.Cy,Tt _ _ _,_,rfl,R0 d.code,R0 t,gI (U.mono B),gI (ht.mono B),shaped_ints _,shaped_ints _,_,rfl,?_⟩;rw[j1];refine Fi (λh=>?_) (λh=>?_)
  .have I:=xI h;refine⟨_,rfl,?_⟩;have:=q _ B;rw[cx n hd I]at this;exact this
  .refine⟨B,⟨_,_,rfl⟩,λj c' hj J=>?_⟩;by_cases e':j=i
   .subst e';rw[hd]at J;cases J;exact λz=>h (xR z)
   .exact n j c' Om J
 .rintro σ H' ⟨N,⟨v1,v2,rfl⟩,n⟩;have e1:(as.map V.ref).length=e.length:=by rw[xH];exact AR h4
  rw[e1]at n;have:=q H' N;rw[X1 (λj c L=>n j c (xP.mp L).1 L)]at this;exact this
inductive nG(C:Addr)(vs:List V)(H:Hp)(Q:VK)(z3_:XK):Prop
 |mk (a b:Addr) (c:Vbptal.Class) (e:Vbptal.Edition) (_:vs=[.ref a,.ref b]) (_:ClsAt C H a c) (_:Ju C H b e) (_:Cc e) (_:c.mask<4096) (_:(∀j,c.over=some j->j<e.length)) (_:∀H',AN H H'->Q (.bl (Tb e c)) H')
noncomputable def pd(e:Vbptal.Edition)(c:Vbptal.Class):Bool:=match c.over with
 |none=>true
 |some i=>Vbptal.within_ c.mask (Vbptal.maskAt e i)
theorem mj(h:c.over=none):pd e c=true:=by unfold pd;rw[h]
theorem ka(h:c.over=some i):pd e c=Vbptal.within_ c.mask (Vbptal.maskAt e i):=by unfold pd;rw[h]
theorem kn(e:Vbptal.Edition)(c:Vbptal.Class):Tb e c=((Vbptal.placeOf e c.code).isNone && (pd e c && e.all λd=> !(d.over==c.over && Vbptal.meet d.mask c.mask !=0))):=rfl
theorem Mb(o:Option Nat):(!decide (Kz o=V.int (-1)))=o.isSome:=by
 cases o with
 |none=>rfl
 |some i=>show(!decide (V.int (i:Int)=V.int (-1)))=true;rw[Er,show((i:Int)==(-1:Int))=false from yF.mpr Om];rfl
abbrev vx(a b:Addr)(H1:Hp)(e:Vbptal.Edition)(c:Vbptal.Class):Nat->L2.St->Hp->Prop:=λi σ H'=>H'=H1/\(∃v,σ=[some (.ref a),some (.ref b),v])/\((e.take i).all λd=> !(d.over==c.over && Vbptal.meet d.mask c.mask !=0))=true
theorem nY(T:Txt w K mg):FB P w mg base T.mr 2 (nG T.AX):=by
 refine Ce T.mr gE λaf A U s H vs Q E hr h=>?_;obtain⟨a,b,c,e,rfl,⟨dc,lc,I,Y⟩,⟨as,L,M⟩,ok,hm,aa,q⟩:=h;refine⟨_,(AD (Ab (CA IA (CI hr (FD T) T.Fs (AA (AO (pv 0) rfl) (AA (pv 1) AE))) (gi T.DA)) (AF (AK DN)) AQ) (AD (Ab (PW.pt (J2 (CA IA (AO (pv 0) rfl) (gi T.DA)) (GX (CA IA (Ap Gm (AO (pv 0) rfl) (AO (Cv (pv 1) (AO (pv 0) rfl)) rfl)) (AO (pv 0) rfl))))) (AF (AK DN)) AQ) (AD (Bc xo rfl (BE (pv 1)) (Dz 2 gE.nd) (AF (Ab (PW.pt (J2 (CA A5 (AO (pv 2) rfl) (AO (pv 0) rfl)) (GX (CA IA (Ap Gm (AO (pv 2) rfl) (AO (pv 0) rfl)) AL)))) (AF (AK DN)) AQ))) (AF (AK DN))))),?_⟩;dsimp only[A0,Cx.Ck];rw[kn]at q;refine Iq (Vbptal.placeOf e c.code).isSome (λQ q=>?_) (λh=>?_) (λh=>?_)
 .refine⟨_,rfl,_,_,_,_,_,rfl,I,T.Aa,T.Cy,Tt _ _ _,_,rfl,lc,b,c.code,e,rfl,Y,⟨as,L,M⟩,λH1 n=>⟨?_,_,rfl,?_⟩⟩
  .cases Vbptal.placeOf e c.code<;> rfl
  .rw[Mb];exact q H1 n
 .intro H1 n;have:=q H1 n;have hn:(Vbptal.placeOf e c.code).isNone=false:=by
   cases z:Vbptal.placeOf e c.code with
   |none=>rw[z]at h;cases h
   |some _=>rfl
  rw[hn,zU]at this;exact this
 .intro H1 n;have hn:(Vbptal.placeOf e c.code).isNone=true:=by
   cases z:Vbptal.placeOf e c.code with
   |none=>rfl
   |some _=>rw[z]at h;cases h
  rw[hn,yP]at q;refine AU (!pd e c) (λQ q=>?_) (λh=>?_) (λh=>?_)
  .refine⟨_,rfl,_,_,_,_,_,rfl,n _ _ I,T.Aa,T.Bb,Ih _ _ _,rfl,_,rfl,?_⟩;cases N:c.over with
   |none=>rw[mj N]at q;exact ED q
   |some j=>
    rw[ka N]at q;have hj:=aa j N;have ab:(!decide (V.int (lC (some j))=V.int (-1)))=true:=by rw[Er,show(lC (some j)==(-1:Int))=false from yF.mpr (by show¬((j:Int)= -1);lia)];rfl
    rw[ab];obtain⟨x,hx,dx,lx,ae,_⟩:=Bu j e[j] M (xW hj);refine EG ⟨_,rfl,_,_,_,_,_,rfl,n _ _ I,T.Aa,T.Ae,Bt _ _ _,_,rfl,_,rfl,_,_,_,_,_,rfl,n _ _ I,T.Aa,T.Bb,Ih _ _ _,b,_,_,_,rfl,rfl,Ah.of (n _ _ L),at_of (j:=j) (by rw[N];rfl) (by rw[xh,hx];rfl),_,_,_,_,_,rfl,n _ _ ae,T.Aa,T.Ae,Bt _ _ _,_,_,rfl,rfl,_,rfl,_,_,_,_,_,rfl,n _ _ I,T.Aa,T.Ae,Bt _ _ _,rfl,_,rfl,?_⟩;have ew:(!decide (V.int (Builtin.bitAnd ((c.mask:Nat):Int) ((e[j].mask:Nat):Int))=vn c.mask))= !Vbptal.within_ c.mask (Vbptal.maskAt e j):=by
     rw[j6 hm,Dl (xW hj),EM,Er];by_cases h:c.mask &&& e[j].mask=c.mask
     .simp[h]
     .have h2:¬(((c.mask &&& e[j].mask:Nat):Int)=((c.mask:Nat):Int)):=λz=>h (AA5 z);rw[xV h,show((((c.mask &&& e[j].mask:Nat):Int))==((c.mask:Nat):Int))=false from yF.mpr h2]
    rw[ew];exact q
  .have:=q H1 n;have h':pd e c=false:=by simpa using h
   rw[h',zU]at this;exact this
  .have h':pd e c=true:=by simpa using h
   rw[h',yP]at q;refine⟨_,rfl,b,rfl,⟨_,Ah.of (n _ _ L)⟩,Bh (K:=K) (a:=b) (xs:=as.map V.ref) (vx a b H1 e c) ⟨rfl,⟨_,rfl⟩,rfl⟩ (λi σ H' _ h=>by rw[h.1];exact Ah.of (n _ _ L)) ?_ ?_⟩
   .rintro i x σ H' hx ⟨rfl,⟨v,rfl⟩,B⟩;obtain⟨y,hy,rfl⟩:=BK hx;obtain⟨d,hd,dd,ld,J,_⟩:=Av i y M hy;refine Ca (d.over==c.over && Vbptal.meet d.mask c.mask !=0) (λQ q=>?_) (λh=>?_) (λh=>?_)
    .refine⟨_,rfl,_,_,_,_,_,rfl,n _ _ J,T.Aa,T.Bb,Ih _ _ _,_,rfl,_,_,_,_,_,rfl,n _ _ I,T.Aa,T.Bb,Ih _ _ _,rfl,_,rfl,?_⟩;rw[oS];cases O:(d.over==c.over)with
     |false=>rw[O]at q;exact ED q
     |true=>rw[O,yP]at q;refine EG ⟨_,rfl,_,_,_,_,_,rfl,n _ _ J,T.Aa,T.Ae,Bt _ _ _,_,rfl,_,_,_,_,_,rfl,n _ _ I,T.Aa,T.Ae,Bt _ _ _,_,_,rfl,rfl,rfl,_,rfl,?_⟩;rw[bf (ok.cls i d hd).1];exact q
    .have O:(e.all λd=> !(d.over==c.over && Vbptal.meet d.mask c.mask !=0))=false:=by
      apply ze.mpr;intro z;have:=xk.mp z d (xO hd);rw[h]at this;cases this
     have:=q _ n;rw[O]at this;exact this
    .refine⟨rfl,⟨_,rfl⟩,?_⟩;rw[take_succ hd,AAJ,B];simp only[yn,List.all_nil,h];rfl
   .rintro σ H' ⟨rfl,⟨v,rfl⟩,B⟩;have e1:(as.map V.ref).length=e.length:=by rw[xH];exact AR M
    rw[e1,xm]at B;have:=q _ n;rw[B]at this;exact this
def LZ(H:Hp)(a:Addr)(l:List Int):Prop:=H a=some (.lst (l.map V.int))
theorem LZ.mono(h:LZ H a l)(s:AN H H'):LZ H' a l:=s _ _ h
theorem LI.z(h:LI H a l):LZ H a (Vbptal.ints l):=by unfold LZ LI at*;rw[h,Fn];rfl
theorem LZ.n(h:LZ H a (Vbptal.ints l)):LI H a l:=by unfold LZ LI at*;rw[h,Fn];rfl
inductive fZ(vs:List V)(H:Hp)(Q:VK)(z3_:XK):Prop
 |mk (a:Addr) (l:List Int) (_:vs=[.ref a]) (_:LZ H a l) (_:l.length<=100000) (_:∀H' p,AN H H'->H p=none->LZ H' p ((l.length:Int)::l)->Q (.ref p) H')
theorem Cs(T:Txt w K mg):FB P w mg base T.W8 1 fZ:=by
 refine Ce T.W8 eG λJ A n s H vs Q E L h=>?_;obtain⟨a,l,rfl,z,M,q⟩:=h;refine⟨_,(AF (AK (Ap DF (AZ (AA (IM T.Be (pv 0)) AE)) (pv 0)))),?_⟩;dsimp only[A0,Cx.Ck];refine⟨_,rfl,a,_,rfl,.inl (Ah.of z),by show 1<=sizeLine;decide,λp B=>⟨_,rfl,p,a,_,l.map V.int,rfl,rfl,AB,?_,?_,λp2 j=>?_⟩⟩
 .rw[AG (AH z B)];exact z
 .rw[xH];refine Mf ?_;show 1+l.length<=_;lia
 .have I:AN H (upd H p (.lst [V.int ((l.map V.int).length:Nat)])):=AI B;refine q _ p2 (I.trans (AI j)) ?_ ?_
  .exact I.free j
  .unfold LZ;rw[AB,xH];rfl
theorem LV(h:Q (σ.set i (some v)) H):R7 i v σ H Q:=h
theorem AS(h:te σ H λx H1=>u D (σ.set i (some x)) H1):YZ (mD te (R7 i)) u D σ H:=h
theorem RW(j:H x=none)(n:H dx=none):AN H (upd (upd H dx (.own x)) x o):=λb u e=>by rw[AG (AH e j),AG (AH e n)];exact e
theorem SA{σ:L2.St}{H:Hp}{A B:Hp->Prop}(h:A H):tL σ H (λb j=>if b=true then A j else B j):=by
 show if true=true then A H else B H
 rw[xQ rfl];exact h
theorem N4{b:Bool}{R:Bool->Prop}{S:Prop}(h:b=true->R true)(h2:b=false->S):if b=true then R true else S:=by
 cases b with
 |true=>exact h rfl
 |false=>exact h2 rfl
theorem um{j:Type}{l:List j}{n:Nat}:decide (((l.length:Nat):Int) > (n:Int))=decide (n<l.length):=by
 by_cases h:n<l.length
 .rw[xR h,xR Om]
 .rw[xV h,xV Om]
theorem kB{a b:Nat}:decide (V.int (a:Int)=V.int (b:Int))=decide (a=b):=by
 by_cases h:a=b
 .subst h;simp
 .rw[xV h,xV (λq=>h (by injection q with q;exact AA5 q))]
inductive tr(H:Hp)(a:Addr)(i:Nat)(l:List Nat):Prop
 |mk (as:List Addr) (b:Addr) (_:H a=some (.lst (as.map V.ref))) (_:(as.map V.ref)[i]?=some (.ref b)) (_:LI H b l)
inductive xB(K:PySem.W.Frag)(H:Hp)(a:Addr)(ps:List (List Nat)):Prop
 |mk (as:List Addr) (_:Ah K H a (as.map V.ref)) (_:(as.map V.ref).length=ps.length) (_:Paired (LI H) as ps)
theorem B5.get{H:Hp}{a:Addr}{ps:List (List Nat)}(h:B5 H a ps){i:Nat}{l:List Nat}(hi:ps[i]?=some l):tr H a i l:=by obtain⟨as,h1,h2⟩:=h;obtain⟨b,j,n⟩:=Bu i l h2 hi;exact⟨as,b,h1,by rw[xh,j];rfl,n⟩
theorem B5.sq{K:PySem.W.Frag}{H:Hp}{a:Addr}{ps:List (List Nat)}(h:B5 H a ps):xB K H a ps:=by obtain⟨as,h1,h2⟩:=h;exact⟨as,Ah.of h1,by rw[xH];exact AR h2,h2⟩
theorem RU(c:Nat):∀(t:List Nat)(p:List Nat),p∈Vbptal.cut c t->p.length<=t.length:=by
 intro t
 induction t with
 |nil=>intro p j;simp[Vbptal.cut]at j;subst j;simp
 |cons x t n=>
  intro p j;cases e:Vbptal.cut c t with
  |nil=>exact absurd e (EJ c t)
  |cons q r=>
   by_cases z:x=c
   .subst z;rw[FJ,e]at j;rcases xb.mp j with h|h
    .subst h;simp
    .have:=n p (by rw[e];exact h);simp;lia
   .rw[Df z e]at j;rcases xb.mp j with h|h
    .subst h;have:=n q (by rw[e];simp);simp;lia
    .have:=n p (by rw[e];simp[h]);simp;lia
theorem XG(c:Nat):∀t:List Nat,(Vbptal.cut c t).length<=t.length+1:=by
 intro t
 induction t with
 |nil=>simp[Vbptal.cut]
 |cons x t j=>
  cases e:Vbptal.cut c t with
  |nil=>exact absurd e (EJ c t)
  |cons q r=>
   rw[e]at j;by_cases n:x=c
   .subst n;rw[FJ,e];simp at j⊢;lia
   .rw[Df n e];simp at j⊢;lia
inductive Rb(C:Addr)(vs:List V)(H:Hp)(Q:VK)(z3_:XK):Prop
 |mk (a b:Addr) (t:List Nat) (e:Vbptal.Edition) (_:vs=[.ref a,.ref b]) (_:LI H a t) (_:t.length<=1000) (_:Ju C H b e) (_:(C5 e t=none->∀H',AN H H'->Q .non H')) (_:(∀c,C5 e t=some c->∀H' p,AN H H'->H p=none->ClsAt C (fresh H H') p c->Q (.ref p) H'))
theorem RX(T:Txt w K mg):FB P w mg base T.Kg 3 (Rb T.AX):=by
 refine Ce T.Kg BY λaM A ar s H vs Q E O h=>?_;obtain⟨a,b,t,e,rfl,ht,ab,hE,qn,qs⟩:=h;refine⟨_,(AD (B6 2 BY.nd (CI O (Hk T) T.Jf (AA (pv 0) (AA (gi T.mR) AE)))) (AD (Ab (CA IA (IM T.Be (pv 2)) AL) (AF (AK B9)) AQ) (AD (B6 3 BY.nd (CI O (Hk T) T.Jf (AA (Cv (pv 2) AL) (AA (gi T.rq) AE)))) (AD (Ab (PW.pt (Ds (CA HV (IM T.Be (pv 3)) AL) (DC (Ba (A7 (Fm (mi rfl) (by rfl) T.pb W4 (AA (Hw rfl BY.nd (BE (pv 3)) (show D1 ["sentence","before","halves","codes","code","topics","part","over"] (A4 D9) _ [("code",4)]from CB Dk) (λ_ _ _ _ _=>(Dz 4 BY.nd)) (λ_ _ _ _ _=>Hz) (λ_ _ _ _ _=>(CI O (ez T) T.j3 (AA (pv 4) AE)))) AE))))))) (AF (AK B9)) AQ) (AD (cK (i:=5) rfl BY.nd rfl rfl (gJ rfl rfl rfl rfl) (BE (CI O (Hk T) T.Jf (AA (Cv (pv 2) AL) (AA (gi T.pP) AE)))) (show D1 ["sentence","before","halves","codes","code","topics","part","over"] (A4 D9) _ [("part",6)]from CB Dk) (λ_ _ _ _ _=>(Dz 6 BY.nd)) (λ_ _ _ _ _=>Hz) (λ_ _ _ _ _=>(CI O (KO T) T.Lw (AA (pv 6) AE)))) (AD (Ab (PW.pt (Ds (Ba (A7 (CI O (Pg T) T.SX (AA (pv 5) (AA (gi T.Pq) AE))))) (DC (Ba (A7 (CI O (VZ T) T.XS (AA (pv 5) AE))))))) (AF (AK B9)) AQ) (AD (B6 7 BY.nd (gi T.DA)) (AD (Ab (CA A5 (IM T.Be (pv 3)) AL) (AD (B6 7 BY.nd (CI O (FD T) T.Fs (AA (Cv (pv 3) AL) (AA (pv 1) AE)))) (AF (Ab (CA A5 (pv 7) (gi T.DA)) (AF (AK B9)) AQ))) AQ) (AF (AK (nA (Mt T) λa b=>TZ T.VT a (O.mono Dc) rfl T.Wg b .nil LK (AA (Cv (pv 3) AL) (AA (pv 7) (AA (CI O (Xs T) T.bo (AA (pv 5) AE)) AE)))))))))))))),?_⟩;dsimp only[A0,Cx.Ck];refine AS ⟨_,rfl,a,t,61,rfl,ht,Om,λH1 p1 s1 n1 r1=>?_⟩;obtain⟨aN,q1,l1,aO⟩:=(B5.sq (K:=K) r1);have Y:B5 H1 p1 (Vbptal.cut 61 t):=r1.mono (Aw H H1);obtain⟨aK,as,au,aL⟩:=(B5.sq (K:=K) Y);refine AU (!decide ((Vbptal.cut 61 t).length=2)) (λQ q=>?_) (λh=>?_) (λh=>?_)
 .refine⟨_,rfl,p1,_,rfl,.inl as,rfl,_,rfl,?_⟩;rw[au];show Q (!decide (V.int (((Vbptal.cut 61 t).length:Nat):Int)=V.int ((2:Nat):Int))) H1;rw[kB];exact q
 .exact qn (gA (by simpa using h)) H1 s1
 .have hc:(Vbptal.cut 61 t).length=2:=by simpa using h
  obtain⟨h',m,e2⟩:=cq hc;rw[e2]at Y;obtain⟨aP,b0,g0,g1,g2⟩:=Y.get (i:=0) (l:=h') rfl;have hh:h'.length<=1000:=xr (RU 61 t h' (by rw[e2];simp)) ab;have aQ:m.length<=1000:=xr (RU 61 t m (by rw[e2];simp)) ab;refine AS ⟨_,rfl,p1,_,_,_,rfl,rfl,Ah.of g0,at_of (j:=0) rfl g1,b0,h',60,rfl,g2,Om,λH2 p2 s2 n2 r2=>?_⟩;have aa:B5 H2 p2 (Vbptal.cut 60 h'):=r2.mono (Aw H1 H2);obtain⟨av,q2,l2,ax⟩:=(B5.sq (K:=K) aa);refine Iq (decide (2< (Vbptal.cut 60 h').length)|| !(Vbptal.cut 60 h').all Vbptal.isCode) (λQ q=>?_) (λh2=>?_) (λh2=>?_)
  .refine⟨_,rfl,p2,_,rfl,.inl q2,_,_,rfl,rfl,_,rfl,?_⟩;rw[l2];show if decide ((((Vbptal.cut 60 h').length:Nat):Int) > ((2:Nat):Int))=true then _ else _
   rw[um];refine N4 (R:=λb=>Q b H2) (λB=>?_) (λB=>?_)
   .have:=q H2 (AN.refl _);rw[B]at this;exact this
   .rw[B,yo]at q;refine⟨_,rfl,p2,rfl,⟨_,q2⟩,λD hD=>FP (K:=K) (a:=p2) (xs:=av.map V.ref) (λi H'=>AN H2 H'/\H' D=some (.lst ((((Vbptal.cut 60 h').take i).map Vbptal.isCode).map V.bl))) ⟨AI hD,AB⟩ (λi H' _ z=>z.1.seq q2) ?_ ?_⟩
    .rintro i x H' hx ⟨hs,hd⟩;obtain⟨y,hy,rfl⟩:=BK hx;obtain⟨cd,af,ag⟩:=Av i y ax hy;refine⟨rfl,SA ?_⟩;refine⟨_,rfl,y,cd,rfl,ag.mono hs,_,hd,?_,λb o z=>?_,?_⟩
     .rw[xH,xH,xt];have:=XG 60 h';exact Az Om
     .rw[AG (AH z hD)];exact hs b o z
     .rw[AB,take_succ af,xX,xX];rfl
    .rintro H' ⟨hs,hd⟩;rw[l2,xm]at hd;refine⟨D,_,rfl,Ah.of hd,_,rfl,?_⟩;have:=q H' hs;rw[ABE];exact this
  .intro H3 s3;refine qn ((Ie e2).trans ?_) H3 (s1.trans (s2.trans s3));rcases zN.mp h2 with B|B
   .exact Xu (xI B)
   .exact xQ (by simpa using B)
  .intro H3 s3;have B:¬2< (Vbptal.cut 60 h').length/\(Vbptal.cut 60 h').all Vbptal.isCode=true:=by
    rw[yU]at h2;exact⟨xc h2.1,by simpa using h2.2⟩
   have ah:AN H1 H3:=s2.trans s3;obtain⟨aR,b1,g3,g4,g5⟩:=Y.get (i:=1) (l:=m) rfl;refine AS ⟨_,rfl,p1,_,_,_,rfl,rfl,Ah.of (ah _ _ g3),at_of (j:=1) rfl g4,b1,m,44,rfl,g5.mono ah,Om,λH4 p4 s4 n4 r4=>?_⟩;have ay:B5 H4 p4 (Vbptal.cut 44 m):=r4.mono (Aw H3 H4);obtain⟨az,q4,l4,aA⟩:=(B5.sq (K:=K) ay);have aS:(Ft m).length<=2000:=by unfold Ft;rw[xH];have:=XG 44 m;lia
   refine⟨p4,rfl,⟨_,q4⟩,λD hD=>FP (K:=K) (a:=p4) (xs:=az.map V.ref) (λi H'=>AN H4 H'/\LZ H' D ((Ft m).take i)) ⟨AI hD,AB⟩ (λi H' _ z=>z.1.seq q4) ?_ ?_⟩
   .rintro i x H' hx ⟨hs,hd⟩;obtain⟨y,hy,rfl⟩:=BK hx;obtain⟨cd,af,ag⟩:=Av i y aA hy;have aB:(Ft m)[i]?=some (Dy cd):=by unfold Ft;rw[xh,af];rfl
    refine⟨rfl,SA ?_⟩;refine⟨_,rfl,y,cd,rfl,ag.mono hs,_,hd,?_,λb o z=>?_,?_⟩
    .rw[xH,xt];exact Az Om
    .rw[AG (AH z hD)];exact hs b o z
    .unfold LZ;rw[AB,take_succ aB,xX];rfl
   .rintro U ⟨aC,I⟩;rw[l4,show(Vbptal.cut 44 m).length=(Ft m).length by unfold Ft;rw[xH],xm]at I;have J:AN H3 U:=s4.trans aC;have n:AN H U:=s1.trans (ah.trans J);refine AU (!Ek (Ft m)) (λQ q=>?_) (λh4=>?_) (λh4=>?_)
    .refine⟨_,rfl,D,_,11,rfl,Ah.of I,_,rfl,?_⟩;unfold Ek at q;cases hA:((Ft m).all λv=>decide (0<=v) && decide (v<=11))with
     |false=>rw[hA,zU]at q;exact EG q
     |true=>rw[hA,yP]at q;exact ED ⟨_,rfl,D,_,rfl,Ah.of I,Om,_,rfl,q⟩
    .refine qn ?_ U n;have h5:Ek (Ft m)=false:=by simpa using h4
     exact(Ie e2).trans (Uo h5)
    .have h5:Ek (Ft m)=true:=by simpa using h4
     have am:∃L:List Nat,Ft m=Vbptal.ints L/\(∀t∈L,t<12)/\L=(Ft m).map Int.toNat:=by
      have ae:∀v∈Ft m,0<=v/\v<=11:=by unfold Ek at h5;rw[x4]at h5;intro v hv;have:=xk.mp h5.1 v hv;simpa using this
      refine⟨(Ft m).map Int.toNat,?_,λt ht=>?_,rfl⟩
      .unfold Vbptal.ints;rw[yg]
       conv=>lhs;rw[<-ACC (Ft m)]
       apply yu;intro v hv;have:=ae v hv;simp;lia
      .obtain⟨v,hv,rfl⟩:=x5.mp ht;have:=ae v hv;lia
     obtain⟨L,aD,an,ao⟩:=am;have ap:LI U D L:=by rw[aD]at I;exact I.n
     have fr:∀(bb:Addr)(o:HO),fresh H1 H2 bb=some o->∀H6,AN U H6->fresh H H6 bb=some o:=by
      intro bb o hb H6 aE;have aF:H1 bb=none:=by
       cases z:H1 bb with
       |none=>rfl
       |some u=>rw[Cj z]at hb;cases hb
      rw[Ay (s1.free aF)];exact aE _ _ (J _ _ (s3 _ _ (Aw H1 H2 _ _ hb)))
     refine AS ?_;refine AU (decide ((Vbptal.cut 60 h').length=2)) (λQ q=>?_) (λh6=>?_) (λh6=>?_)
     .refine⟨_,rfl,p2,_,rfl,.inl ((s3.trans J).seq q2),rfl,_,rfl,?_⟩;rw[l2];show Q (decide (V.int (((Vbptal.cut 60 h').length:Nat):Int)=V.int ((2:Nat):Int))) U;rw[kB];exact q
     .obtain⟨ca,M,e6⟩:=cq (xI h6);rw[e6]at r2 aa B;obtain⟨aT,b6,g6,g7,g8⟩:=aa.get (i:=1) (l:=M) rfl;obtain⟨aG,b7,g9,ai,aj⟩:=r2.get (i:=0) (l:=ca) rfl;have N:AN H2 U:=s3.trans J;refine AS ⟨_,rfl,p2,_,_,_,rfl,rfl,Ah.of (N _ _ g6),at_of (j:=1) rfl g7,_,rfl,b6,b,M,e,rfl,g8.mono N,hE.mono n,λH6 s6=>?_⟩;refine Ca (Vbptal.placeOf e M).isNone (λQ q=>?_) (λh7=>?_) (λh7=>?_)
      .refine⟨_,rfl,?_,_,rfl,?_⟩
       .cases Vbptal.placeOf e M<;> rfl
       .have e7:=Mb (Vbptal.placeOf e M);have e8:decide (Kz (Vbptal.placeOf e M)=V.int (-1))=(Vbptal.placeOf e M).isNone:=by
         rw[<-Bool.not_not (decide _),e7];cases Vbptal.placeOf e M<;> rfl
        rw[e8];exact q
      .refine qn ?_ H6 (n.trans s6);rw[Ie e2,e6,TM B.2 h5];exact x3 (Option.map _) (AAg.mp h7)
      .obtain⟨ov,aq⟩:∃ov,Vbptal.placeOf e M=some ov:=by
        cases z:Vbptal.placeOf e M with
        |none=>rw[z]at h7;cases h7
        |some ov=>exact⟨ov,rfl⟩
       have aH:AN H2 H6:=N.trans s6;refine⟨_,rfl,p2,_,_,_,rfl,rfl,Ah.of (aH _ _ (Aw H1 H2 _ _ g9)),at_of (j:=0) rfl ai,_,rfl,_,rfl,D,L,rfl,ap.mono s6,an,λx dx nx ak aI=>⟨x,dx,_,_,_,rfl,AB,rfl,?_⟩⟩;rw[CD];have sx:AN H6 (upd (upd H6 dx (.own x)) x (.ins T.AX dx (Ad "topics" (vn (Vbptal.maskOf L)) (Ad "over" (Kz (Vbptal.placeOf e M)) (Ad "code" (.ref b7) []))))):=RW nx ak;refine qs ⟨ca,some ov,Vbptal.maskOf L⟩ ?_ _ x ((n.trans s6).trans sx) ((n.trans s6).free nx) ⟨dx,b7,?_,?_⟩
       .rw[Ie e2,e6,TM B.2 h5,ao];exact x3 (Option.map _) aq
       .rw[Ay ((n.trans s6).free nx),AB,aq];rfl
       .exact fr b7 _ aj _ (s6.trans sx)
     .have h7:∃ca,Vbptal.cut 60 h'=[ca]:=by
       have aJ:=EJ 60 h';have h8:=xc h6;have h9:=B.1
       match hq:Vbptal.cut 60 h' with
       |[]=>exact absurd hq aJ
       |[ca]=>exact⟨ca,rfl⟩
       |[_,_]=>rw[hq]at h8;exact absurd rfl h8
       |_::_::_::_=>rw[hq]at h9;simp at h9
      obtain⟨ca,e6⟩:=h7;rw[e6]at r2 aa B;obtain⟨aG,b7,g9,ai,aj⟩:=r2.get (i:=0) (l:=ca) rfl;have N:AN H2 U:=s3.trans J;refine⟨_,rfl,p2,_,_,_,rfl,rfl,Ah.of (N _ _ (Aw H1 H2 _ _ g9)),at_of (j:=0) rfl ai,_,rfl,_,rfl,D,L,rfl,ap,an,λx dx nx ak aI=>⟨x,dx,_,_,_,rfl,AB,rfl,?_⟩⟩;rw[CD];have sx:AN U (upd (upd U dx (.own x)) x (.ins T.AX dx (Ad "topics" (vn (Vbptal.maskOf L)) (Ad "over" (.int (-1)) (Ad "code" (.ref b7) []))))):=RW nx ak;refine qs ⟨ca,none,Vbptal.maskOf L⟩ ?_ _ x (n.trans sx) (n.free nx) ⟨dx,b7,?_,?_⟩
      .rw[Ie e2,e6,TM B.2 h5,ao];rfl
      .rw[Ay (n.free nx),AB];rfl
      .exact fr b7 _ aj _ sx
theorem Xd(xs:List V)(x:V):GP (xs++[x]) none (some (-1))=xs:=by
 unfold GP;have e:HT.Yo (xs++[x]).length (xs++[x]).length (some (-1))=xs.length:=by unfold HT.Yo;dsimp only;rw[xQ Dc,xS,zW];lia
 rw[e,HT.Uc];simp
theorem Qs(xs:List V)(k:Nat):GP xs (some (k:Int)) none=xs.drop k:=by
 unfold GP;rw[HT.TY,HT.Uc];by_cases h:k<=xs.length
 .rw[AAf h,yT (by simp)]
 .rw[AB3 Om,AA1 (xZ _),AA1 Om];simp
theorem gY(xs:List V)(k:Nat):GP xs none (some (k:Int))=xs.take k:=by
 unfold GP;rw[HT.TY,HT.Uc,List.drop_zero,Nat.sub_zero];by_cases h:k<=xs.length
 .rw[AAf h]
 .rw[AB3 Om,yT Om,yT Om]
theorem Z6(xs:List V)(i j:Nat)(h:i<=xs.length):GP xs (some (i:Int)) (some (j:Int))=(xs.drop i).take (j - i):=by
 unfold GP;rw[HT.TY,HT.TY,AAf h];by_cases h2:j<=xs.length
 .rw[AAf h2]
 .rw[AB3 Om,yT (by simp),yT (by simp;lia)]
theorem Zj(ok:Cc e)(h:C5 e t=some c):c.mask<4096/\∀j,c.over=some j->j<e.length:=by
 by_cases z:(Vbptal.cut 61 t).length=2
 .obtain⟨h',m,B⟩:=cq z;rw[Ie B]at h;by_cases n:(Vbptal.cut 60 h').all Vbptal.isCode=false
  .cases(xQ n).symm.trans h
  by_cases hd:Ek (Ft m)=false
  .cases(Uo hd).symm.trans h
  have hd:=zd hd;have h:=(TM (zd n) hd).symm.trans h;have I:Vbptal.maskOf ((Ft m).map Int.toNat)<4096:=by refine MY λx J=>?_;obtain⟨v,L,rfl⟩:=x5.mp J;have:=xk.mp (xT.mp hd).1 v L;simp at this;lia
  clear n B;generalize Vbptal.cut 60 h'=ps at h
  match ps,h with
  |[],h=>cases h
  |[a],h=>cases h;exact⟨I,nofun⟩
  |[a,b],h=>obtain⟨i,hi,rfl⟩:=xu.mp h;refine⟨I,λj M=>?_⟩;cases M;obtain⟨N,q,_⟩:=placeOf_some hi;exact(xP.mp q).1
  |_::_::_::_,h=>cases h
 .cases(gA z).symm.trans h
theorem ZK{z n:Type}{F:z->n->Prop}{m:List n}{l:List z}{b:n}(h:Paired F l (m++[b])):∃j a,l=j++[a]/\Paired F j m/\F a b:=by
 induction m generalizing l with
 |nil=>
  cases h with
  |cons r t=>cases t;exact⟨[],_,rfl,.nil,r⟩
 |cons c m B=>
  cases h with
  |cons r t=>obtain⟨j,a,e,p,q⟩:=B t;exact⟨_::j,a,by rw[e];rfl,.cons r p,q⟩
theorem iS:∀(l m:List (List Nat))(e:Vbptal.Edition),Eu e (l++m)=match Eu e l with
  |none=>none
  |some f=>Eu f m
 |[],m,e=>rfl
 |a::l,m,e=>by
  show(match C3 e a with|none=>none|some f=>Eu f (l++m))=match (match C3 e a with|none=>none|some f=>Eu f l)with|none=>none|some f=>Eu f m
  cases C3 e a with
  |none=>rfl
  |some f=>exact iS l m f
theorem EO(h:l[i]?=some x):l=l.take i++(x::l.drop (i+1)):=by obtain⟨hi,rfl⟩:=xP.mp h;rw[AA2,AAU]
inductive Sj(C:Addr)(vs:List V)(H:Hp)(Q:VK)(z3_:XK):Prop
 |mk (a:Addr) (t:List Nat) (_:vs=[.ref a]) (_:LI H a t) (_:t.length<=1000) (_:(Vbptal.editionOf t=none->∀H',AN H H'->Q .non H')) (_:(∀e,Vbptal.editionOf t=some e->∀H' p,AN H H'->H p=none->Ju C (fresh H H') p e->Q (.ref p) H'))
abbrev wG(T:Txt w K mg)(a j p2 pc:Addr)(H H2:Hp)(n:List (List Nat)):Nat->L2.St->Hp->Prop:=λi σ H'=>∃(e:Vbptal.Edition)(ks:List Addr)(v1 q:Option V),Eu [] (n.take i)=some e/\σ=[some (.ref a),some (.ref j),some (.ref p2),some (.ref pc),v1,q]/\AN H2 H'/\H' pc=some (.lst (ks.map V.ref))/\Paired (ClsAt T.AX (CE.Bl [pc] (fresh H H'))) ks e
theorem S3(T:Txt w K mg):FB P w mg base T.MD 4 (Sj T.AX):=by
 refine Ce T.MD Cf λaI A as s H vs Q E hr h=>?_;obtain⟨a,t,rfl,ht,aH,qn,qs⟩:=h;refine⟨_,(AD (B6 1 Cf.nd (CI hr (Hk T) T.Jf (AA (pv 0) (AA (gi T.bu) AE)))) (AD (Ab (CA HV (IM T.Be (Cv (pv 1) (Ln Gv AL))) AL) (AF (AK B9)) AQ) (AD (B6 2 Cf.nd (D0 FO (pv 1) J7 (Dn (Ln Gv AL)))) (AD (Ab (PW.pt (Ds (CA A5 (IM T.Be (pv 2)) AL) (DC (CA HV (IM T.Be (pv 2)) (gi T.Tv))))) (AF (AK B9)) AQ) (AD (B6 3 Cf.nd (AZ AE)) (AD (Bc xo rfl (BE (pv 2)) (Dz 4 Cf.nd) (AD (B6 5 Cf.nd (CI hr (RX T) T.Si (AA (pv 4) (AA (pv 3) AE)))) (AD (Ab (PW.pt (Ds (CA Ra (pv 5) B9) (DC (Ba (A7 (CI hr (nY T) T.qI (AA (pv 5) (AA (pv 3) AE)))))))) (AF (AK B9)) AQ) (AF (A3 (Cn xa xw xx BD (pv 3) (AA (pv 5) AE))))))) (AF (AK (pv 3))))))))),?_⟩;dsimp only[A0,Cx.Ck];rw[WT]at qn qs;refine AS ⟨_,rfl,a,t,59,rfl,ht,Om,λH1 p1 s1 n1 r1=>?_⟩;obtain⟨j,sl,n⟩:=lG 59 t;have au:B5 H1 p1 (Vbptal.cut 59 t):=r1.mono (Aw H H1);obtain⟨aJ,g1,ai⟩:=id au;have av:(Vbptal.cut 59 t).dropLast=j:=by rw[n,yQ]
 have ax:(Vbptal.cut 59 t).getLast?=some sl:=by rw[n,List.getLast?_concat]
 rw[av,ax]at qn qs;rw[n]at ai;obtain⟨xs,x,rfl,aj,hx⟩:=ZK ai;have aa:(xs++[x]).map V.ref=xs.map V.ref++[V.ref x]:=by rw[xX];rfl
 rw[aa]at g1;refine AU (decide (0<sl.length)) (λQ q=>?_) (λh=>?_) (λh=>?_)
 .refine⟨_,rfl,_,rfl,p1,_,_,_,rfl,rfl,Ah.of g1,QV _ _,x,_,rfl,.inl hx.sq,_,_,rfl,rfl,_,rfl,?_⟩;rw[Am];show Q (decide (((sl.length:Nat):Int) > ((0:Nat):Int))) H1;rw[um];exact q
 .refine qn (xJ ?_) H1 s1;rintro⟨q,_⟩;have:=xI h;rw[xn q]at this;simp at this
 .have ay:sl=[]:=by
   have:=xc h;exact yR.mp Om
  subst ay;refine AS ⟨_,rfl,_,rfl,_,rfl,p1,_,rfl,Ah.of g1,λp2 n2=>?_⟩;rw[show GP (xs.map V.ref++[V.ref x]) none (some (-1))=xs.map V.ref from Xd _ _];have hl:(xs.map V.ref).length=j.length:=by rw[xH];exact AR aj
  have ab:AN H1 (upd H1 p2 (.lst (xs.map V.ref))):=AI n2;have J:(upd H1 p2 (.lst (xs.map V.ref))) p2=some (.lst (xs.map V.ref)):=AB;generalize upd H1 p2 (.lst (xs.map V.ref))=H2 at ab J⊢;have ak:Paired (LI H2) xs j:=Paired.BO (λ_ _ z=>LI.mono z ab) aj;have U:AN H H2:=s1.trans ab;refine AU (decide (j.length=0)|| decide (16<j.length)) (λQ q=>?_) (λh=>?_) (λh=>?_)
  .refine⟨_,rfl,p2,_,rfl,.inl (Ah.of J),rfl,_,rfl,?_⟩;rw[hl];show if decide (V.int ((j.length:Nat):Int)=V.int ((0:Nat):Int))=true then _ else _
   rw[kB];refine N4 (R:=λb=>Q b H2) (λh3=>?_) (λh3=>?_)
   .rw[h3]at q;exact q
   .rw[h3,yo]at q;refine⟨_,rfl,p2,_,rfl,.inl (Ah.of J),_,_,rfl,rfl,_,rfl,?_⟩;rw[hl];show Q (decide (((j.length:Nat):Int) > ((16:Nat):Int))) H2;rw[um];exact q
  .refine qn (xJ ?_) H2 U;rintro⟨_,q1,q2⟩;rcases zN.mp h with z|z
   .have:=xI z;lia
   .have:=xI z;lia
  .have am:0<j.length/\j.length<=16:=by
    rw[yU]at h;have h1:=xc h.1;have h2:=xc h.2;lia
   rw[xQ ⟨rfl,am.1,am.2⟩]at qn qs;refine AS ⟨by show 0<=sizeLine;exact xi _,λpc nc=>?_⟩;have ae:H pc=none:=U.free nc;have e0:∀b o,H2 b=some o->b≠pc:=λb o z=>AH z nc;refine⟨_,rfl,p2,rfl,⟨_,Ah.of ((AI nc) _ _ J)⟩,Bh (K:=K) (a:=p2) (xs:=xs.map V.ref)
    (wG T a p1 p2 pc H H2 j)
    ⟨[],[],none,none,rfl,rfl,AI nc,AB,.nil⟩ (λi σ H' _ z=>by obtain⟨e,ks,v1,v2,_,_,z1,_⟩:=z;exact Ah.of (z1 _ _ J)) ?_ ?_⟩
   .rintro i y σ H3 hy ⟨e,ks,v1,v2,he,rfl,L,hk,M⟩;obtain⟨ya,az,rfl⟩:=BK hy;obtain⟨st,Y,aA⟩:=Av i ya ak az;have hi:i<j.length:=(xP.mp Y).1;have N:=mP Cc.nil (by rw[xt];simp;lia) he;have aB:e.length<16:=by have:=N.2;rw[xt]at this;simp at this;lia
    have af:AN H H3:=U.trans L;have an:Ju T.AX H3 pc e:=⟨ks,hk,Paired.BO (λ_ _ z=>z.mono ((Af _ _).trans (Aw H H3))) M⟩;have ao:st.length<=1000:=by have:=RU 59 t st (by rw[n];exact y3 _ (xO Y));lia
    have B:Eu [] j=match C3 e st with|none=>none|some f=>Eu f (j.drop (i+1)):=by have:=iS (j.take i) (st::j.drop (i+1)) [];rw[<-EO Y,he]at this;exact this
    refine LV (AS ⟨_,rfl,_,rfl,ya,pc,st,e,rfl,aA.mono L,ao,an,λhn H4 O=>?_,λc hc H4 pf O nf ap=>?_⟩)
    .have hs:C3 e st=none:=by unfold C3;rw[hn]
     rw[hs]at B;refine AU true (λQ q=>⟨_,rfl,rfl,_,rfl,EG q⟩) (λ_=>?_) (λz=>by cases z);exact qn B H4 (af.trans O)
    .have aC:AN H H4:=af.trans O;obtain⟨aD,aE⟩:=Zj N.1 hc;have aq:ClsAt T.AX H4 pf c:=ap.mono (Aw H3 H4);refine Iq (!Tb e c) (λQ q=>?_) (λh5=>?_) (λh5=>?_)
     .refine⟨_,rfl,rfl,_,rfl,?_⟩;refine ED ⟨_,rfl,_,rfl,pf,pc,c,e,rfl,aq,an.mono O,N.1,aD,aE,λH5 I=>⟨_,rfl,q H5 I⟩⟩
     .intro H5 I;have hs:C3 e st=none:=by
       unfold C3;rw[hc];have h6:Tb e c=false:=by simpa using h5
       dsimp only;rw[xJ (by rw[h6];decide)]
      rw[hs]at B;exact qn B H5 (aC.trans I)
     .intro H5 I;have ag:AN H3 H5:=O.trans I;have ar:=ag _ _ hk;refine⟨_,rfl,.inl ⟨rfl,_,Ah.of ar⟩,_,rfl,pc,_,_,rfl,rfl,ar,?_,e++[c],ks++[pf],_,_,?_,rfl,λb o z=>?_,?_,?_⟩
      .rw[xH];have:=AR M;exact Az Om
      .rw[take_succ Y,bA,he];dsimp only;unfold C3;rw[hc];dsimp only;rw[xQ (by simpa using h5)]
      .rw[AG (e0 b o z)];exact ag _ _ (L _ _ z)
      .rw[AB,xX];rfl
      .have aF:fresh H (upd H5 pc (.lst (ks.map V.ref++[V.ref pf])))=upd (fresh H H5) pc (.lst (ks.map V.ref++[V.ref pf])):=by
        funext b;by_cases hb:b=pc
        .subst hb;rw[Ay ae,AB,AB]
        .rw[AG hb];unfold fresh;rw[AG hb]
       rw[aF,Ga (by simp)];refine BR (Paired.BO (λ_ _ z=>z.mono (AN.Bl (OJ ag))) M) (ap.mono λb o z=>?_);have ah:H3 b=none:=by
        cases w:H3 b with
        |none=>rfl
        |some u=>rw[Cj w]at z;cases z
       have aG:b≠pc:=λw=>by rw[w,hk]at ah;cases ah
       rw[As (by simpa using aG),Ay (af.free ah)];exact I _ _ (Aw H3 H4 _ _ z)
   .rintro σ H' ⟨e,ks,v1,v2,he,rfl,L,hk,M⟩;rw[hl,xm]at he;refine⟨_,rfl,qs e he H' pc (U.trans L) ae ⟨ks,?_,Paired.BO (λ_ _ z=>z.mono (Af _ _)) M⟩⟩;rw[Ay ae];exact hk
inductive Y0(H H':Hp)(p:Addr)(rows:List (List Nat)):Prop
 |mk (ks:List Addr) (_:H' p=some (.lst (ks.map V.ref))) (_:Paired (LI (CE.Bl [p] (fresh H H'))) ks rows)
theorem Y0.rows{H H':Hp}{p:Addr}{rows:List (List Nat)}(j:H p=none)(g:Y0 H H' p rows):B5 (fresh H H') p rows:=by obtain⟨ks,h1,h2⟩:=g;exact⟨ks,by rw[Ay j];exact h1,Paired.BO (λ_ _ z=>z.mono (Af _ _)) h2⟩
theorem RY(n:H p=none):fresh H (upd H' p o)=upd (fresh H H') p o:=by
 funext b;by_cases j:b=p
 .subst j;rw[Ay n,AB,AB]
 .rw[AG j];unfold fresh;rw[AG j]
theorem IT{j n:Type}{F:j->n->Prop}{l q:List j}{m z:List n}(g:Paired F l m)(h:Paired F q z):Paired F (l++q) (m++z):=by
 induction g with
 |nil=>exact h
 |cons r t B=>exact .cons r B
theorem Y0.join(L:H p=none)(s:AN H1 H2)(g:Y0 H H1 p B)(M:B5 (fresh H1 H2) d I)(N:AN H H1):
  ∃ks j:List Addr,H2 p=some (.lst (ks.map V.ref))/\H2 d=some (.lst (j.map V.ref))/\ks.length=B.length/\j.length=I.length/\Y0 H (upd H2 p (.lst (ks.map V.ref++j.map V.ref))) p (B++I):=by
 obtain⟨ks,h1,h2⟩:=g;obtain⟨j,O,J⟩:=M;refine⟨ks,j,s _ _ h1,Aw H1 H2 _ _ O,AR h2,AR J,ks++j,?_,?_⟩
 .rw[AB,xX]
 .rw[RY L,Ga (by simp)];refine IT (Paired.BO (λ_ _ z=>z.mono (AN.Bl (OJ s))) h2) (Paired.BO (λ_ _ z=>z.mono λb o e=>?_) J);have n:H1 b=none:=by
   cases w:H1 b with
   |none=>rfl
   |some u=>rw[Cj w]at e;cases e
  have q:b≠p:=λw=>by rw[w,h1]at n;cases n
  rw[As (by simpa using q),Ay (N.free n)];exact Aw H1 H2 _ _ e
theorem RT(b:Bool)(h:∀Q:Bool->Hp->Prop,Q b H->t σ H Q)(j:b=true->ta σ H Q)(n:b=false->tb σ H Q):ph t ta tb σ H Q:=by
 refine h _ ?_;cases b with
 |true=>exact EG (j rfl)
 |false=>exact ED (n rfl)
theorem UQ(f:Nat->n)(j:Nat):(List.range (j+1)).map f=(List.range j).map f++[f j]:=by rw[zr,xX];rfl
theorem cV(l:List Nat)(h:l.getLast?=some x):ji (Bs l) (-1)=some (vn x):=by obtain⟨ys,rfl⟩:=ABo.mp h;rw[B4];exact QV _ _
inductive Mr(vs:List V)(H:Hp)(Q:VK)(z3_:XK):Prop
 |mk (a:Addr) (ls:List (List Nat)) (_:vs=[.ref a]) (_:B5 H a ls) (_:(∀l∈ls,l.length<=3/\∀t∈l,t<12)) (_:ls.length<=300) (_:∀H' p,AN H H'->H p=none->B5 (fresh H H') p (Iw ls)->Q (.ref p) H')
theorem iM(j:List (List Nat)):(Iw j).length<=12*j.length:=by
 unfold Iw
 induction j with
 |nil=>simp
 |cons a l n=>
  rw[zJ,xS,xg];have:(J4 a).length<=12:=by unfold J4;rw[xH,yl];lia
  lia
abbrev vv(a pc:Addr)(H:Hp)(j:List (List Nat)):Nat->L2.St->Hp->Prop:=λi σ H'=>(∃v1 n q:Option V,σ=[some (.ref a),some (.ref pc),v1,n,q])/\AN H H'/\Y0 H H' pc (Iw (j.take i))
theorem Mq(T:Txt w K mg):FB P w mg base T.HH 1 Mr:=by
 refine Ce T.HH Bn λan A ab s H vs Q E hr h=>?_;obtain⟨a,ls,rfl,ae,af,hn,q⟩:=h;obtain⟨as,g0,aa⟩:=id ae;refine⟨_,(AD (B6 1 Bn.nd (AZ AE)) (AD (Bc xo rfl (BE (pv 0)) (X3 (i:=2) Bn.nd rfl (Or.inr rfl)) (AD (B6 3 Bn.nd (Jb (CA HV (IM T.Be (pv 2)) AL) (Ap EK (Cv (pv 2) (Ln Gv AL)) AL) AL)) (AF (A3 (Cn xa yx yy FA (pv 1) (AA (Hw rfl Bn.nd (Wz rfl T.TV (AA (pv 3) (AA (Ap EK (gi T.Pq) AL) AE))) (show D1 ["lists","longer","topics","first","topic"] (A4 EF) _ [("topic",4)]from CB Dk) (λ_ _ _ _ _=>(Dz 4 Bn.nd)) (λ_ _ _ _ _=>Hz) (λ_ _ _ _ _=>(Ap DF (pv 2) (AZ (AA (pv 4) AE))))) AE)))))) (AF (AK (pv 1))))),?_⟩;dsimp only[A0,Cx.Ck];refine AS ⟨by show 0<=sizeLine;exact xi _,λpc Y=>?_⟩;refine⟨_,rfl,a,rfl,⟨_,Ah.of ((AI Y) _ _ g0)⟩,Bh (K:=K) (a:=a) (xs:=as.map V.ref)
  (vv a pc H ls)
  ⟨⟨_,_,_,rfl⟩,AI Y,[],AB,.nil⟩ (λi σ H' _ z=>Ah.of (z.2.1 _ _ g0)) ?_ ?_⟩
 .rintro i x σ H1 hx ⟨⟨v1,v2,v3,rfl⟩,s1,gr⟩;obtain⟨N,ag,rfl⟩:=BK hx;obtain⟨l,hl,ah⟩:=Av i N aa ag;obtain⟨ao,ai⟩:=af l (xO hl);have J:LI H1 N l:=ah.mono s1;have ap:nextT l<=12:=by
   unfold nextT;split
   .lia
   .rename_i z hz;have:=ai z (ABH hz);lia
  refine LV (AS ?_);refine(λ(hyp:∀R:V->Hp->Prop,R (vn (nextT l)) H1->ph _ _ _ _ H1 R)=>hyp _ ?_) (λR r=>?_);rotate_left
  .refine RT (decide (0<l.length)) (λQ q=>?_) (λh=>?_) (λh=>?_)
   .refine⟨_,rfl,N,_,rfl,.inl J.sq,_,_,rfl,rfl,_,rfl,?_⟩;rw[Am];show Q (decide (((l.length:Nat):Int) > ((0:Nat):Int))) H1;rw[um];exact q
   .obtain⟨z,hz⟩:∃z,l.getLast?=some z:=by
     cases w:l.getLast? with
     |none=>rw[ABr]at w;rw[w]at h;cases h
     |some z=>exact⟨z,rfl⟩
    refine⟨_,rfl,_,rfl,N,_,_,_,rfl,rfl,J.sq,cV l hz,_,_,rfl,rfl,?_⟩;have e:nextT l=z+1:=by unfold nextT;rw[hz]
    rw[e]at r;exact r
   .have e:nextT l=0:=by
     have:=xc h;have:l=[]:=yR.mp Om;subst this;rfl
    rw[e]at r;exact r
  .obtain⟨aq,aj,_⟩:=id gr;have ak:=iM (ls.take i);rw[xt]at ak;refine⟨_,rfl,.inl ⟨rfl,_,Ah.of aj⟩,_,rfl,_,_,rfl,rfl,_,_,rfl,⟨Om,Om,Dc,Dc⟩,λD hD=>cU (lo:=(nextT l:Int)) (n:=(((11:Int)+1) - (nextT l:Int)).toNat)
    (λj H'=>AN H1 H'/\∃O:List Addr,H' D=some (.lst (O.map V.ref))/\Paired (LI (CE.Bl [D] (fresh H1 H'))) O ((List.range j).map λj=>l++[nextT l+j])) ⟨AI hD,[],AB,.nil⟩ ?_ ?_⟩
   .rintro j H2 hj ⟨s2,O,I,pj⟩;refine⟨rfl,SA ?_⟩;have en:((nextT l:Int)+(j:Nat))=((nextT l+j:Nat):Int):=by lia
    have ar:N≠D:=AH J hD;have M:LI H2 N l:=J.mono s2;refine⟨_,rfl,_,rfl,by show 1<=sizeLine;decide,λp1 n1=>⟨N,p1,Bs l,_,rfl,rfl,?_,AB,?_,λp2 U=>⟨O.map V.ref,?_,?_,λb o z=>?_,O++[p2],?_,?_⟩⟩⟩
    .rw[AG (AH M n1)];exact M
    .rw[Am];exact Mf (by show l.length+1<=_;lia)
    .have B:D≠p1:=AH I n1;have L:D≠p2:=by
      intro e;rw[e]at I B;rw[AG B,I]at U;cases U
     rw[AG L,AG B];exact I
    .rw[xH];have:=AR pj;rw[xH,yl]at this;exact Az Om
    .rw[AG (AH z hD)];exact(AI U) _ _ ((AI n1) _ _ (s2 _ _ z))
    .rw[AB,xX];rfl
    .have sb:=(AI (o:=.lst [V.int ((nextT l:Int)+(j:Nat))]) n1).trans (AI (o:=.lst (Bs l++[V.int ((nextT l:Int)+(j:Nat))])) U);rw[RY hD,Ga (by simp),UQ];refine BR (Paired.BO (λ_ _ z=>z.mono (AN.Bl (OJ sb))) pj) ?_;have B:D≠p1:=AH I n1;have L:D≠p2:=by
      intro e;rw[e]at I B;rw[AG B,I]at U;cases U
     have am:H2 p2=none:=(AI n1).free U;unfold LI;rw[As (by simpa using x8 L),Ay (s2.free am),AB,B4,en]
   .rintro H2 ⟨s2,O,I,pj⟩;have en:(((11:Int)+1) - (nextT l:Int)).toNat=12 - nextT l:=by lia
    rw[en]at pj;have gd:B5 (fresh H1 H2) D (J4 l):=⟨O,by rw[Ay hD];exact I,Paired.BO (λ_ _ z=>z.mono (Af _ _)) pj⟩;obtain⟨ks,au,e1,e2,e3,e4,gj⟩:=Y0.join Y s2 gr gd s1;refine⟨pc,D,_,_,rfl,rfl,e1,e2,?_,⟨_,_,_,rfl⟩,λb o z=>?_,?_⟩
    .rw[xH,xH,e3,e4];have:(J4 l).length<=12:=by unfold J4;rw[xH,yl];lia
     exact Mf Om
    .rw[AG (AH z Y)];exact s2 _ _ (s1 _ _ z)
    .have e5:Iw (ls.take (i+1))=Iw (ls.take i)++J4 l:=by
      unfold Iw;rw[take_succ hl,yt];simp
     rw[e5];exact gj
 .rintro σ H' ⟨⟨v1,v2,v3,rfl⟩,s1,gr⟩;have e1:(as.map V.ref).length=ls.length:=by rw[xH];exact AR aa
  rw[e1,xm]at gr;exact⟨_,rfl,q H' pc s1 Y (gr.rows Y)⟩
def ON:Sp:=λvs H Q _=>vs=[]/\∀H' p,AN H H'->H p=none->B5 (fresh H H') p Vbptal.topicSets->Q (.ref p) H'
abbrev vJ(j:Addr)(H:Hp):Nat->L2.St->Hp->Prop:=λi σ H'=>∃(pl:Addr)(v:Option V),σ=[some (.ref pl),some (.ref j),v]/\AN H H'/\B5 (CE.Bl [j] (fresh H H')) pl (lvl i)/\Y0 H H' j (lX i)
theorem OS(T:Txt w K mg):FB P w mg base T.Eb 2 ON:=by
 refine Ce T.Eb CQ λan A aa s H vs Q E hr h=>?_;obtain⟨rfl,q⟩:=h;refine⟨_,(AD (B6 0 CQ.nd (AZ (AA (AZ AE) AE))) (AD (B6 1 CQ.nd (AZ (AA (AZ AE) AE))) (AD (Bc xo rfl (XR rfl T.TV (AA (gi T.O4) AE)) (Dz 2 CQ.nd) (AD (B6 0 CQ.nd (CI hr (Mq T) T.OZ (AA (pv 0) AE))) (AF (A3 (Cn xa yx yy FA (pv 1) (AA (pv 0) AE)))))) (AF (AK (pv 1)))))),?_⟩;dsimp only[A0,Cx.Ck];refine AS ⟨by show 0<=sizeLine;exact xi _,λp1 n1=>⟨by show 1<=sizeLine;decide,λp2 n2=>?_⟩⟩;refine AS ⟨by show 0<=sizeLine;exact xi _,λY n3=>⟨by show 1<=sizeLine;decide,λI L=>?_⟩⟩;have s1:=AI (o:=.lst []) n1;have M:=AI (o:=.lst [V.ref p1]) n2;have J:=AI (o:=.lst []) n3;have s4:=AI (o:=.lst [V.ref Y]) L;have j:H I=none:=s1.free (M.free (J.free L));have ab:H Y=none:=s1.free (M.free n3);have ae:Y≠I:=AH (o:=.lst []) AB L;have af:p2≠I:=AH (J _ _ AB) L;have ag:p1≠I:=AH (J _ _ (M _ _ AB)) L;have ah:H p2=none:=s1.free n2;refine⟨3,rfl,Dc,Dc,W9 (lo:=0) (n:=3)
  (vJ I H) ?_ ?_ ?_⟩
 .refine⟨p2,_,rfl,(s1.trans M).trans (J.trans s4),⟨[p1],?_,.cons ?_ .nil⟩,[Y],AB,.cons ?_ .nil⟩
  .rw[As (by simpa using af),Ay ah];exact s4 _ _ (J _ _ AB)
  .unfold LI;rw[As (by simpa using ag),Ay n1];exact s4 _ _ (J _ _ (M _ _ AB))
  .unfold LI;rw[As (by simpa using ae),Ay ab];exact s4 _ _ AB
 .rintro i σ H1 hi ⟨pl,v,rfl,B,N,gr⟩;obtain⟨ai,aj⟩:=rb i Om;obtain⟨kk,ak,_⟩:=id gr;refine LV (AS ⟨_,rfl,pl,lvl i,rfl,N.mono ((Af _ _).trans (Aw H H1)),ai,aj,λH2 pn O nn U=>?_⟩);obtain⟨ks,js,e1,e2,e3,e4,gj⟩:=Y0.join j O gr U B;refine⟨_,rfl,.inl ⟨rfl,_,Ah.of e1⟩,_,rfl,I,pn,_,_,rfl,rfl,e1,e2,?_,pn,_,rfl,λb o z=>?_,?_,gj⟩
  .rw[xH,xH,e3,e4];have h1:=k8 i Om;have h2:=iM (lvl i);exact Mf Om
  .rw[AG (AH z j)];exact O _ _ (B _ _ z)
  .rw[RY j,Ga (by simp)];refine U.mono λb o z=>?_;have hb:H1 b=none:=by
    cases w:H1 b with
    |none=>rfl
    |some u=>rw[Cj w]at z;cases z
   have am:b≠I:=λw=>by rw[w,ak]at hb;cases hb
   rw[As (by simpa using am),Ay (B.free hb)];exact Aw H1 H2 _ _ z
 .rintro σ H' ⟨pl,v,rfl,B,N,gr⟩;refine⟨_,rfl,q H' I B j ?_⟩;rw[jg];exact gr.rows j
theorem EA{K:PySem.W.Frag}{to te:TE}{f:Str}{u:TS}{D:Ends}{σ:L2.St}{H:Hp}(h:te σ H λy H1=>to σ H1 λx H2=>∃a C dx fs,x=.ref a/\H2 a=some (.ins C dx fs)/\Yg K C/\Bj K C f/\fs.length<1000/\u D σ (upd H2 a (.ins C dx (Ad f y fs)))):YZ (uf K to te f) u D σ H:=h
theorem mn(h:tv σ H λv H1=>td σ H1 λx H2=>ty σ H2 λy n=>∃a j,x=.ref a/\Y5 n a y v j/\u D σ j):YZ (pX td ty tv) u D σ H:=h
theorem D3(h:te σ H λ_ H1=>u D σ H1):YZ (pZ te) u D σ H:=h
def kvsOf(l:List (Nat×Nat)):List (Key×V):=l.map λj=>(Sum.inl (j.1:Int),vn j.2)
theorem MV{a b:Nat}:((Sum.inl (a:Int):Key)=Sum.inl (b:Int))↔a=b:=by
 constructor
 .intro h;injection h with h;exact AA5 h
 .intro h;rw[h]
theorem jC(l:List (Nat×Nat))(k:Nat):((kvsOf l).any λj=>decide (j.1=Sum.inl (k:Int)))=l.any λj=>decide (j.1=k):=by
 unfold kvsOf;rw[List.any_map]
 congr 1
 funext x;simp only[Function.comp];by_cases h:x.1=k
 .rw[xR h,xR (MV.mpr h)]
 .rw[xV h,xV λq=>h (MV.mp q)]
theorem Xh(l:List (Nat×Nat))(k v:Nat):putK (kvsOf l) (Sum.inl (k:Int)) (vn v)=kvsOf (putN l k v):=by
 unfold putK putN;rw[jC];split
 .unfold kvsOf;rw[yg,yg];apply yu;intro x _;simp only[Function.comp];by_cases h:x.1=k
  .rw[xQ h,xQ (MV.mpr h)]
  .rw[xJ h,xJ λq=>h (MV.mp q)]
 .unfold kvsOf;rw[xX];rfl
theorem RO(k:Nat):∀l:List (Nat×Nat),C4 (kvsOf l) (Sum.inl (k:Int))=(l.find? λj=>decide (j.1=k)).map λj=>vn j.2
 |[]=>rfl
 |x::l=>by
  have e:kvsOf (x::l)=(Sum.inl (x.1:Int),vn x.2)::kvsOf l:=rfl;rw[e];by_cases h:x.1=k
  .rw[DH (MV.mpr h),AAz (by simp[h])];rfl
  .rw[DJ (λq=>h (MV.mp q)),List.find?_cons_of_neg (by simp[h])];exact RO k l
theorem jX(l:List (Nat×Nat))(k:Nat):(C4 (kvsOf l) (Sum.inl (k:Int))).getD (V.int 0)=vn (QA l k):=by rw[RO];unfold QA;cases l.find? λj=>decide (j.1=k)<;> rfl
theorem Gb(l:List (Nat×Nat)):(kvsOf l).length=l.length:=xH ..
inductive vq(l:List (Nat×Nat))(i:Nat)(k:Key)(v:V):Prop
 |mk (x:Nat×Nat) (_:l[i]?=some x) (_:k=Sum.inl (x.1:Int)) (_:v=vn x.2)
theorem Qe{l:List (Nat×Nat)}{i:Nat}{k:Key}{v:V}(h:(kvsOf l)[i]?=some (k,v)):vq l i k v:=by
 unfold kvsOf at h;rw[xh]at h;cases e:l[i]? with
 |none=>rw[e]at h;cases h
 |some x=>rw[e]at h;cases h;exact⟨x,e,rfl,rfl⟩
def QT:List (Nat×Nat):=MS.zipIdx.map λx=>(x.1,2 ^ x.2)
theorem Ma:QT.length=MS.length:=by unfold QT;rw[xH,List.length_zipIdx]
theorem Zc(h:MS[i]?=some m):QT[i]?=some (m,2 ^ i):=by unfold QT;rw[xh,List.getElem?_zipIdx,h];simp
theorem bT:CK QT=MS:=by
 unfold CK QT;rw[yg];have:((λx:Nat×Nat=>x.1)∘λx:Nat×Nat=>(x.1,2 ^ x.2))=Prod.fst:=by funext x;rfl
 rw[this,List.zipIdx_map_fst]
theorem nH(h:MS[i]?=some m):putN (QT.take i) m (2 ^ i)=QT.take (i+1):=by
 have B:¬((QT.take i).any λI=>decide (I.1=m))=true:=by
  intro q;obtain⟨x,J,z⟩:=AAW.mp q;have j:x.1∈(MS.take i):=by have:x.1∈CK (QT.take i):=x5.mpr ⟨x,J,rfl⟩;unfold CK at this;rw[AAY]at this;have e:QT.map (·.1)=MS:=bT;rw[e]at this;exact this
  rw[xI z]at j;have n:=Zq;have e:MS=MS.take i++(m::MS.drop (i+1)):=EO h;rw[e,yX]at n;exact n.2.2 m j m (by simp) rfl
 unfold putN;rw[xJ B,take_succ (Zc h)]
theorem kI(h:MS[i]?=some m):QT.find? (λz=>decide (z.1=m))=some (m,2 ^ i):=by
 have j:=Zq;have e:MS=MS.take i++(m::MS.drop (i+1)):=EO h;have B:QT=QT.take i++((m,2 ^ i)::QT.drop (i+1)):=EO (Zc h);rw[B,List.find?_append,AAz (by simp)];have:(QT.take i).find? (λz=>decide (z.1=m))=none:=by
  rw[AAI];intro x I q;have n:x.1∈(MS.take i):=by have:x.1∈CK (QT.take i):=x5.mpr ⟨x,I,rfl⟩;unfold CK at this;rw[AAY]at this;have e:QT.map (·.1)=MS:=bT;rw[e]at this;exact this
  rw[xI q]at n;rw[e,yX]at j;exact j.2.2 m n m (by simp) rfl
 rw[this];rfl
def om(d:Addr):List (Str×V):=Ad "every" (vn (A2 MS)) (Ad "bits" (.ref d) [])
theorem Z5(d:Addr):(om d).lookup ("every":Str)=some (vn (A2 MS)):=by unfold om;rw[AJ,xQ rfl]
theorem Yu(d:Addr):(om d).lookup ("bits":Str)=some (.ref d):=by unfold om;rw[AJ,xJ Dk,AJ,xQ rfl]
theorem qB(d:Addr){m:Str}(h1:¬m="every")(h2:¬m="bits"):(om d).lookup m=none:=by unfold om;rw[AJ,xJ h1,AJ,xJ h2];rfl
inductive Yc(C:Addr)(H:Hp)(a:Addr):Prop
 |mk (dx d) (_:H a=some (.ins C dx (om d))) (_:H d=some (.dK (kvsOf QT)))
theorem Yc.mono(h:Yc C H a)(s:AN H H'):Yc C H' a:=by obtain⟨dx,d,h1,h2⟩:=h;exact⟨dx,d,s _ _ h1,s _ _ h2⟩
inductive Ou(C:Addr)(vs:List V)(H:Hp)(Q:VK)(z3_:XK):Prop
 |mk (p dx:Addr) (_:vs=[.ref p]) (_:H p=some (.ins C dx [])) (_:∀H' d,(∀b o,b≠p->H b=some o->H' b=some o)->H d=none->H' p=some (.ins C dx (om d))->H' d=some (.dK (kvsOf QT))->Q .non H')
abbrev vo(p d:Addr)(H2:Hp):Nat->L2.St->Hp->Prop:=λi σ H'=>(∃v:Option V,σ=[some (.ref p),some (vn (2 ^ i)),v])/\(∀b o,b≠d->H2 b=some o->H' b=some o)/\H' d=some (.dK (kvsOf (QT.take i)))
theorem Pz(T:Txt w K mg):FB P w mg base T.Iy 3 (Ou T.An):=by
 refine Ce T.Iy DV λag A ab s H vs Q E hr h=>?_;obtain⟨p,dx,rfl,hp,q⟩:=h;refine⟨_,(AD (CG (pv 0) bW rfl) (AD (B6 1 DV.nd AL) (AD (Bc xo rfl (BE (nA (OS T) λa b=>m8 a (hr.mono Dc) rfl T.PJ T.Eb.kp b .nil LK)) (Dz 2 DV.nd) (AD (gK (gx hr) (AO (pv 0) rfl) (CI hr (Xs T) T.bo (AA (pv 2) AE)) (pv 1) rfl) (AF (B6 1 DV.nd (Ap dh (pv 1) AL))))) (AF (CG (pv 0) (Ap IH (pv 1) AL) rfl))))),?_⟩;dsimp only[A0,Cx.Ck];refine EA λd N=>⟨_,rfl,p,_,dx,[],rfl,?_,T.Bz,T.Cr,(by show 0<1000;decide),?_⟩
 .rw[AG (AH hp N)];exact hp
 have B:p≠d:=AH hp N;have j:(upd (upd H d (.dK [])) p (.ins T.An dx (Ad "bits" (.ref d) []))) p=some (.ins T.An dx (Ad "bits" (.ref d) [])):=AB;have n:(upd (upd H d (.dK [])) p (.ins T.An dx (Ad "bits" (.ref d) []))) d=some (.dK []):=by rw[AG (x8 B),AB]
 have O:∀b o,b≠p->H b=some o->(upd (upd H d (.dK [])) p (.ins T.An dx (Ad "bits" (.ref d) []))) b=some o:=λb o J e=>by rw[AG J,AG (AH e N)];exact e
 generalize upd (upd H d (.dK [])) p (.ins T.An dx (Ad "bits" (.ref d) []))=H1 at j n O⊢;refine AS ?_;refine⟨rfl,λH2 pl s2 n2 r2=>?_⟩;obtain⟨as,g0,U⟩:=id r2;have I:∀b o,fresh H1 H2 b=some o->b≠d/\H2 b=some o:=λb o z=>by refine⟨λe=>?_,Aw _ _ _ _ z⟩;rw[e,Cj n]at z;cases z
 refine⟨pl,rfl,⟨_,Ah.of (Aw _ _ _ _ g0)⟩,Bh (K:=K) (a:=pl) (xs:=as.map V.ref)
  (vo p d H2)
  ⟨⟨_,rfl⟩,λb o _ e=>e,s2 _ _ n⟩ (λi σ H' _ z=>Ah.of (z.2.1 _ _ (I _ _ g0).1 (I _ _ g0).2)) ?_ ?_⟩
 .rintro i x σ H3 hx ⟨⟨v,rfl⟩,M,hd⟩;obtain⟨ya,ae,rfl⟩:=BK hx;obtain⟨l,hl,Y⟩:=Av i ya U ae;have aa:LI H3 ya l:=M _ _ (I _ _ Y).1 (I _ _ Y).2;have hm:=tT hl;have af:=(ZH (xO hl)).2;have L:H3 p=some (.ins T.An dx (Ad "bits" (.ref d) [])):=M _ _ B (s2 _ _ j);have ah:i<MS.length:=(xP.mp hm).1;refine LV (mn ?_);refine⟨_,rfl,_,rfl,p,_,dx,_,_,rfl,L,T.Bz,T.Cr,by rw[AJ,xQ rfl],_,rfl,ya,l,rfl,aa,af,d,_,rfl,Y5.k (k:=Sum.inl ((Vbptal.maskOf l:Nat):Int)) hd ?_,?_⟩
  .rw[Gb,xt,Ma];have:=fO;exact Az Om
  .refine⟨_,rfl,_,_,rfl,rfl,.inr ⟨Dc,Dc⟩,⟨some (.ref ya),?_⟩,λb o J e=>?_,?_⟩
   .rw[show((2 ^ (i+1):Nat))=2 ^ i*2 from za ..];rfl
   .rw[AG J];exact M b o J e
   .rw[AB,Xh,nH hm]
 .rintro σ H3 ⟨⟨v,rfl⟩,M,hd⟩;have e1:(as.map V.ref).length=MS.length:=by rw[xH,AR U,ij]
  rw[e1,<-Ma,xm]at hd;have L:H3 p=some (.ins T.An dx (Ad "bits" (.ref d) [])):=M _ _ B (s2 _ _ j);refine⟨_,rfl,_,_,rfl,rfl,_,rfl,p,_,dx,_,rfl,L,T.Bz,T.EH,put1 _ _,?_⟩;refine q _ d (λb o J e=>?_) N ?_ ?_
  .rw[AG J];exact M _ _ (AH e N) (s2 _ _ (O _ _ J e))
  .rw[AB];have ev:((2 ^ (as.map V.ref).length:Nat):Int) - 1=((A2 MS:Nat):Int):=by
    rw[e1];have:0<2 ^ MS.length:=AAd _;unfold A2;lia
   show some (HO.ins T.An dx (Ad "every" (V.int (((2 ^ (as.map V.ref).length:Nat):Int) - 1)) (Ad "bits" (V.ref d) [])))=_;rw[ev];rfl
  .rw[AG (x8 B)];exact hd
end
theorem Tc{d:Addr}{o:Obj}{kvs:List (Key×V)}{g:TG}{I:TT}{te:TE}{vs:List Nat}{σ:L2.St}{H1:Hp}{D:Addr}{J:Hp->Prop}(Pv:Nat->Hp->Prop)(N:Pv 0 (upd H1 D (.lst [])))(L:∀i H,Pv i H->H d=some (.frz o (.dK kvs)))
  (O:∀i k v H T,kvs[i]?=some (k,v)->Pv i H->H T=none->g (.ref T) (wipe σ vs) (upd H T (.tup [kV k,v])) λj H2=>wipe j vs=wipe σ vs/\I j H2 λb n=>
   if b=true then te j n λy q=>∃acc,q D=some (.lst acc)/\acc.length<sizeLine/\Pv (i+1) (upd q D (.lst (acc++[y])))else Pv (i+1) n) (hd:∀H,Pv kvs.length H->J H):
  ∃W:Nat->Nat->Hp->Prop,(∃m,W 0 m (upd H1 D (.lst [])))/\∀i m H,W i m H->
   ((pR d o kvs).stop i H/\J H)\/((pR d o kvs).go i H/\∃B:Hp->Prop,(∀H',B H'->∃M,M<m/\W (i+1) M H')/\∀x H',(pR d o kvs).jz i H x H'->g x (wipe σ vs) H' λj H2=>wipe j vs=wipe σ vs/\I j H2 λb n=>
    if b=true then te j n λy q=>∃acc,q D=some (.lst acc)/\acc.length<sizeLine/\B (upd q D (.lst (acc++[y])))else B n):=by
 refine⟨λi m H=>m=kvs.length - i/\i<=kvs.length/\Pv i H,⟨kvs.length,by simp,xi _,N⟩,?_⟩;rintro i m H ⟨rfl,hi,p⟩;by_cases z:i<kvs.length
 .refine .inr ⟨⟨L i H p,z⟩,Pv (i+1),λH' U=>⟨kvs.length - (i+1),Om,rfl,z,U⟩,λx H' y=>?_⟩;obtain⟨T,k,v,e1,Y,e3,e4⟩:=y;subst Y e4;exact O i k v H T e1 p e3
 .have e:i=kvs.length:=by lia
  subst e;exact .inl ⟨⟨L _ H p,xZ _⟩,hd H p⟩
theorem ip{d:Addr}{o:Obj}{kvs:List (Key×V)}{g:TG}{tb:TS}{D:Ends}{σ:L2.St}{H:Hp}(Pv:Nat->L2.St->Hp->Prop)(I:Pv 0 σ H)(z:∀i σ H,Pv i σ H->H d=some (.frz o (.dK kvs)))
  (J:∀i k v σ H T,kvs[i]?=some (k,v)->Pv i σ H->H T=none->g (.ref T) σ (upd H T (.tup [kV k,v])) λj H2=>tb {D with nx:=Pv (i+1),ct:=Pv (i+1),bk:=D.nx} j H2) (hd:∀σ H,Pv kvs.length σ H->D.nx σ H):
  ∃W:Nat->Nat->L2.St->Hp->Prop,(∃m,W 0 m σ H)/\∀i m σ H,W i m σ H->
   ((pR d o kvs).stop i H/\D.nx σ H)\/((pR d o kvs).go i H/\∃N:L2.St->Hp->Prop,(∀n H',N n H'->∃B,B<m/\W (i+1) B n H')/\∀x H',(pR d o kvs).jz i H x H'->g x σ H' λj H2=>tb {D with nx:=N,ct:=N,bk:=D.nx} j H2):=by
 refine⟨λi m σ H=>m=kvs.length - i/\i<=kvs.length/\Pv i σ H,⟨kvs.length,by simp,xi _,I⟩,?_⟩;rintro i m σ H ⟨rfl,hi,p⟩;by_cases q:i<kvs.length
 .refine .inr ⟨⟨z i σ H p,q⟩,Pv (i+1),λn H' L=>⟨kvs.length - (i+1),Om,rfl,q,L⟩,λx H' y=>?_⟩;obtain⟨T,k,v,e1,M,O,U⟩:=y;subst M U;exact J i k v σ H T e1 p O
 .have e:i=kvs.length:=by lia
  subst e;exact .inl ⟨⟨z _ σ H p,xZ _⟩,hd σ H p⟩
theorem sU(hd:H d=some u)(s:AN (upd H d (.frz n u)) H'):AN H (upd H' d u):=λb o e=>by
 by_cases j:b=d
 .subst j;rw[hd]at e;rw[AB,e]
 .rw[AG j];exact s b o (by rw[AG j];exact e)
section
variable{P:Program}{w:World}{K:PySem.W.Frag}{mg:Str->Option Value}{base:Heap}
theorem sum_nat:∀l:List Nat,(l.map λ(n:Nat)=>(n:Int)).sum=((l.sum:Nat):Int)
 |[]=>rfl
 |a::l=>by rw[yE,ACH,ACH,sum_nat l];lia
theorem Zb(a b:Nat):(!decide (V.int (Builtin.bitAnd (a:Int) (b:Int))=V.int 0))=decide (a &&& b≠0):=by
 rw[EM];show(!decide (V.int ((a &&& b:Nat):Int)=V.int ((0:Nat):Int)))=_;rw[kB];by_cases h:a &&& b=0
 .rw[xR h,xV (λq=>q h)];rfl
 .rw[xV h,xR h];rfl
inductive MJ(C:Addr)(vs:List V)(H:Hp)(Q:VK)(z3_:XK):Prop
 |mk (a:Addr) (m:Nat) (_:vs=[.ref a,vn m]) (_:Yc C H a) (_:∀H',AN H H'->Q (vn (bitsOf (Ed m) MS)) H')
theorem MU(T:Txt w K mg):FB P w mg base T.GL 1 (MJ T.An):=by
 refine Ce T.GL Cq λaf A M s H vs Q E hr h=>?_;obtain⟨a,m,rfl,⟨dx,d,ha,hd⟩,q⟩:=h;refine⟨_,(AF (AK (Fm (l0 rfl) (by rfl) T.lA Qt (AA (Yi (Hw rfl Cq.nd (Pt (AO (pv 0) rfl)) (show D1 ["self","topics","meant","bit"] (A4 Dx) _ [("meant",2),("bit",3)]from CB Dk) (λ_ _ _ _ _=>(show PG _ _ (eC K 2 _)from(DT rfl (Ak (Dz 2 Cq.nd) (Ak (Dz 3 Cq.nd) CY))))) (λ_ _ _ _ _=>(Hq (CA IA (Ap Gm (pv 2) (pv 1)) AL))) (λ_ _ _ _ _=>(pv 3)))) AE)))),?_⟩;dsimp only[A0,Cx.Ck];have N:a≠d:=Dv ha hd (by intro z;cases z);refine⟨d,_,hd,trivial,λO=>⟨_,rfl,a,_,dx,_,_,rfl,?_,T.Bz,T.Cr,Yu _,d,O,_,rfl,AB,λD J=>Tc (d:=d) (o:=O) (kvs:=kvsOf QT)
  (λi H'=>AN (upd H d (.frz O (.dK (kvsOf QT)))) H'/\LI H' D (DL (Ed m) i)) ⟨AI J,AB⟩ (λi H' z=>z.1 _ _ AB) ?_ ?_⟩⟩
 .rw[AG N];exact ha
 .rintro i k v H1 U Y ⟨L,B⟩ nT;obtain⟨x,hx,rfl,rfl⟩:=Qe Y;have aa:i<MS.length:=by rw[<-Ma];exact(xP.mp hx).1
  have j:MS[i]?=some MS[i]:=xW aa;rw[Zc j]at hx;cases hx;have ab:D≠U:=AH B nT;refine⟨U,_,rfl,Cd.of AB,rfl,_,_,rfl,_,_,rfl,rfl,rfl,_,rfl,_,rfl,_,_,rfl,rfl,rfl,_,rfl,?_⟩;show if(!decide (V.int (Builtin.bitAnd ((MS[i]:Nat):Int) ((m:Nat):Int))=V.int 0))=true then _ else _
  rw[Zb];have I:LI (upd H1 U (.tup [kV (Sum.inl ((MS[i]:Nat):Int)),vn (2 ^ i)])) D (DL (Ed m) i):=by unfold LI;rw[AG ab];exact B
  have s2:=L.trans (AI (o:=.tup [kV (Sum.inl ((MS[i]:Nat):Int)),vn (2 ^ i)]) nT);refine Fi (λh=>⟨_,rfl,_,I,?_,λb o e=>?_,?_⟩) (λh=>⟨s2,?_⟩)
  .rw[Am];have h1:=ZG (Ed m) i;have h2:=fO;exact Az Om
  .rw[AG (AH e J)];exact s2 b o e
  .unfold LI;rw[AB,IJ j,xQ (show Ed m MS[i]=true from h),B4]
  .rw[IJ j,xJ (show¬Ed m MS[i]=true from h),yJ];exact I
 .rintro H1 ⟨L,B⟩;rw[Gb,Ma]at B;refine⟨L _ _ AB,D,(DL (Ed m) MS.length).map λ(n:Nat)=>(n:Int),rfl,?_,?_⟩
  .have ae:D≠d:=λe=>by subst e;rw[AB]at J;cases J
   refine Ah.of ?_;rw[AG ae,<-Fn];exact B
  .have e:((DL (Ed m) MS.length).map λ(n:Nat)=>(n:Int)).sum=((bitsOf (Ed m) MS:Nat):Int):=by
    rw[<-Ze,sum_nat]
   rw[e];exact q _ (sU hd L)
inductive Ko(C:Addr)(vs:List V)(H:Hp)(Q:VK)(z3_:XK):Prop
 |mk (a:Addr) (p:Nat->Bool) (m:Nat) (_:vs=[.ref a,vn (bitsOf p MS)]) (_:Yc C H a) (_:MS.find? p=some m) (_:∀H',AN H H'->Q (vn m) H')
theorem Ki(T:Txt w K mg):FB P w mg base T.FU 1 (Ko T.An):=by
 refine Ce T.FU CZ λaf A M s H vs Q E hr h=>?_;obtain⟨a,p,m,rfl,⟨dx,d,ha,hd⟩,hf,q⟩:=h;refine⟨_,(AF (AK (Cv (Yi (Hw rfl CZ.nd (Pt (AO (pv 0) rfl)) (show D1 ["self","some","meant","bit"] (A4 Di) _ [("meant",2),("bit",3)]from CB Dk) (λ_ _ _ _ _=>(show PG _ _ (eC K 2 _)from(DT rfl (Ak (Dz 2 CZ.nd) (Ak (Dz 3 CZ.nd) CY))))) (λ_ _ _ _ _=>(Hq (CA IA (Ap Gm (pv 1) (pv 3)) AL))) (λ_ _ _ _ _=>(pv 2)))) AL))),?_⟩;dsimp only[A0,Cx.Ck];have N:a≠d:=Dv ha hd (by intro z;cases z);refine⟨d,_,hd,trivial,λO=>⟨_,rfl,a,_,dx,_,_,rfl,?_,T.Bz,T.Cr,Yu _,d,O,_,rfl,AB,λD J=>Tc (d:=d) (o:=O) (kvs:=kvsOf QT)
  (λi H'=>AN (upd H d (.frz O (.dK (kvsOf QT)))) H'/\LI H' D (D7 (bitsOf p MS) i)) ⟨AI J,AB⟩ (λi H' z=>z.1 _ _ AB) ?_ ?_⟩⟩
 .rw[AG N];exact ha
 .rintro i k v H1 U Y ⟨L,B⟩ nT;obtain⟨x,hx,rfl,rfl⟩:=Qe Y;have aa:i<MS.length:=by rw[<-Ma];exact(xP.mp hx).1
  have n:MS[i]?=some MS[i]:=xW aa;rw[Zc n]at hx;cases hx;have ab:D≠U:=AH B nT;refine⟨U,_,rfl,Cd.of AB,rfl,_,_,rfl,_,_,rfl,rfl,rfl,_,rfl,_,rfl,_,_,rfl,rfl,rfl,_,rfl,?_⟩;show if(!decide (V.int (Builtin.bitAnd ((bitsOf p MS:Nat):Int) ((2 ^ i:Nat):Int))=V.int 0))=true then _ else _
  rw[Zb];have I:LI (upd H1 U (.tup [kV (Sum.inl ((MS[i]:Nat):Int)),vn (2 ^ i)])) D (D7 (bitsOf p MS) i):=by unfold LI;rw[AG ab];exact B
  have s2:=L.trans (AI (o:=.tup [kV (Sum.inl ((MS[i]:Nat):Int)),vn (2 ^ i)]) nT);have eb:decide (bitsOf p MS &&& 2 ^ i≠0)=(bitsOf p MS).testBit i:=by
   cases hb:(bitsOf p MS).testBit i with
   |true=>exact xR λz=>by rw[(Mi _ _).mp z]at hb;cases hb
   |false=>exact xV λz=>z ((Mi _ _).mpr hb)
  rw[eb];refine Fi (λh=>⟨_,rfl,_,I,?_,λb o e=>?_,?_⟩) (λh=>⟨s2,?_⟩)
  .rw[Am];have h1:=Yw (bitsOf p MS) i;have h2:=fO;exact Az Om
  .rw[AG (AH e J)];exact s2 b o e
  .unfold LI;rw[AB,IP n,xQ h,B4];rfl
  .rw[IP n,xJ h,yJ];exact I
 .rintro H1 ⟨L,B⟩;rw[Gb,Ma,Yp]at B;have ae:D≠d:=λe=>by subst e;rw[AB]at J;cases J
  refine⟨L _ _ AB,D,Bs (MS.filter p),_,vn m,rfl,rfl,Ah.of (by rw[AG ae];exact B),at_of (j:=0) rfl ?_,q _ (sU hd L)⟩;unfold Bs;rw[xh,R6,hf];rfl
inductive RM(vs:List V)(H:Hp)(Q:VK)(z3_:XK):Prop
 |mk (a:Addr) (c:List (Nat×Nat)) (m:Nat) (_:vs=[.ref a,vn m]) (_:H a=some (.dK (kvsOf c))) (_:c.length<=1728) (_:∀H' p more,AN H H'->H p=none->H' p=some (.dK (kvsOf more))->GF c m 12 0 more->Q (.ref p) H')
theorem rj(m i:Nat):decide (m &&& 2 ^ i≠0)=m.testBit i:=by
 cases j:m.testBit i with
 |true=>exact xR λz=>by rw[(Mi _ _).mp z]at j;cases j
 |false=>exact xV λz=>z ((Mi _ _).mpr j)
abbrev tR(a pm:Addr)(m:Nat)(c:List (Nat×Nat))(H:Hp):Nat->L2.St->Hp->Prop:=λi σ H'=>(∃v1 j n:Option V,σ=[some (.ref a),some (vn m),some (.ref pm),v1,j,n])/\AN H H'/\∃more,H' pm=some (.dK (kvsOf more))/\GF c m i 0 more
theorem RF(T:Txt w K mg):FB P w mg base T.Ka 1 RM:=by
 refine Ce T.Ka C0 λak A ae s H vs Q E hr h=>?_;obtain⟨a,c,m,rfl,ha,hc,q⟩:=h;refine⟨_,(AD (B6 2 C0.nd bW) (AD (Bc xo rfl (mx (CF (v:=.ref T.Gx) rfl T.Ut rfl)) (Dz 3 C0.nd) (AF (Ab (CA IA (Ap Gm (pv 1) (pv 3)) AL) (AF (og (Bc xo rfl (Pt (pv 0)) (DT rfl (Ak (Dz 4 C0.nd) (Ak (Dz 5 C0.nd) CY))) (AF (gK (gx hr) (pv 2) (Ap cu (pv 4) (pv 3)) (Ap EK (lB (gx hr) (pv 2) (Ap cu (pv 4) (pv 3)) AL ⟨rfl,rfl,rfl,rfl⟩) (pv 5)) rfl))))) AQ))) (AF (AK (pv 2))))),?_⟩;dsimp only[A0,Cx.Ck];have qP:=T.Tz;rw[iE]at qP;refine AS λpm nm=>?_;have I:a≠pm:=AH ha nm;refine⟨_,rfl,⟨_,qP _⟩,gu (K:=K) (a:=T.Gx) (xs:=(List.range 12).map λt=>vn (2 ^ t))
  (tR a pm m c H)
  ⟨⟨_,_,_,rfl⟩,AI nm,[],AB,GF.start c m⟩ (λ_ _ _ _ _=>qP _) ?_ ?_⟩
 .rintro i x σ H1 hx ⟨⟨v1,v2,v3,rfl⟩,O,more,J,U⟩;have hi:i<12:=by
   have:=(xP.mp hx).1;simpa using this
  have ex:x=vn (2 ^ i):=by rw[xh,List.getElem?_range hi]at hx;exact(xn hx).symm
  subst ex;refine LV (Ca (m.testBit i) (λQ q=>?_) (λh=>?_) (λh=>?_))
  .refine⟨_,rfl,_,rfl,_,_,rfl,rfl,rfl,_,rfl,?_⟩;show Q (!decide (V.int (Builtin.bitAnd ((m:Nat):Int) ((2 ^ i:Nat):Int))=V.int 0)) H1;rw[Zb,rj];exact q
  .have af:=O _ _ ha;refine⟨a,_,af,trivial,λod=>⟨_,rfl,a,od,_,rfl,AB,ip (d:=a) (o:=od) (kvs:=kvsOf c)
    (λj σ H'=>(∃v1 v2:Option V,σ=[some (.ref a),some (vn m),some (.ref pm),some (vn (2 ^ i)),v1,v2])/\(∀b o,b≠pm->upd H1 a (.frz od (.dK (kvsOf c))) b=some o->H' b=some o)/\∃more,H' pm=some (.dK (kvsOf more))/\GF c m i j more)
    ⟨⟨_,_,rfl⟩,λb o _ e=>e,more,by rw[AG (x8 I)];exact J,U⟩ (λj σ H' z=>z.2.1 _ _ I AB) ?_ ?_⟩⟩
   .rintro j k v σ H2 T0 ag ⟨⟨w1,w2,rfl⟩,Y,n,L,B⟩ nT;obtain⟨x,aa,rfl,rfl⟩:=Qe ag;have ah:pm≠T0:=AH L nT;have M:(upd H2 T0 (.tup [kV (Sum.inl ((x.1:Nat):Int)),vn x.2])) pm=some (.dK (kvsOf n)):=by rw[AG ah];exact L
    have aj:n.length<100000:=by have h1:=B.len;have h2:=(xP.mp aa).1;have h3:c.length*i<=c.length*12:=Nat.mul_le_mul_left _ Om;lia
    refine⟨T0,_,rfl,Cd.of AB,rfl,_,_,rfl,_,_,rfl,rfl,?_⟩;refine⟨_,rfl,pm,rfl,.inl ⟨_,.inl M⟩,_,rfl,_,rfl,_,_,rfl,rfl,?_⟩;have ab:(C4 (kvsOf n) (Sum.inl (Builtin.bitOr ((x.1:Nat):Int) ((2 ^ i:Nat):Int)))).getD (V.int 0)=V.int ((QA n (x.1||| 2 ^ i):Nat):Int):=by rw[Ig];exact jX _ _
    refine⟨_,Qp.k (k:=Sum.inl (Builtin.bitOr ((x.1:Nat):Int) ((2 ^ i:Nat):Int))) M,_,rfl,_,_,ab,rfl,_,rfl,_,rfl,_,rfl,_,_,rfl,rfl,pm,_,rfl,Y5.k (k:=Sum.inl (Builtin.bitOr ((x.1:Nat):Int) ((2 ^ i:Nat):Int))) M ?_,⟨_,_,rfl⟩,λb o N e=>?_,_,?_,B.put aa hi⟩
    .rw[Gb];exact Az Om
    .have ai:b≠T0:=AH (Y b o N e) nT;rw[AG N,AG ai];exact Y b o N e
    .rw[AB,Ig];have ev:V.int (((QA n (x.1||| 2 ^ i):Nat):Int)+((x.2:Nat):Int))=vn (QA n (x.1||| 2 ^ i)+x.2):=by
      show V.int _=V.int _;rw[Int.natCast_add]
     show some (HO.dK (putK (kvsOf n) (Sum.inl (((x.1||| 2 ^ i:Nat)):Int)) (V.int (((QA n (x.1||| 2 ^ i):Nat):Int)+((x.2:Nat):Int)))))=_;rw[ev,Xh]
   .rintro σ H2 ⟨⟨w1,w2,rfl⟩,Y,n,L,B⟩;rw[Gb]at B;refine⟨Y _ _ I AB,⟨_,_,_,rfl⟩,λb o e=>?_,n,?_,B.next h⟩
    .by_cases N:b=a
     .subst N;rw[AB];rw[ha]at e;exact e
     .rw[AG N];exact Y _ _ (AH e nm) (by rw[AG N];exact O _ _ e)
    .rw[AG (x8 I)];exact L
  .exact⟨⟨_,_,_,rfl⟩,O,more,J,U.skip h⟩
 .rintro σ H1 ⟨⟨v1,v2,v3,rfl⟩,O,more,J,U⟩;have e:(((List.range 12).map λt=>vn (2 ^ t)):List V).length=12:=by simp
  rw[e]at U;exact⟨_,rfl,q H1 pm more O nm J U⟩
inductive QC(vs:List V)(H:Hp)(Q:VK)(z3_:XK):Prop
 |mk (a:Addr) (l:List Nat) (_:vs=[.ref a]) (_:LI H a l) (_:l.length<=3) (_:∀H' p kvs,AN H H'->H p=none->H' p=some (.dK (kvsOf kvs))->dI l kvs->Q (.ref p) H')
abbrev vy(a:Addr)(l:List Nat)(H:Hp):Nat->L2.St->Hp->Prop:=λi σ H'=>∃(pc:Addr)(kvs:List (Nat×Nat))(v:Option V),σ=[some (.ref a),some (.ref pc),v]/\AN H H'/\H pc=none/\H' pc=some (.dK (kvsOf kvs))/\dI (l.take i) kvs
theorem PR(T:Txt w K mg):FB P w mg base T.JT 2 QC:=by
 refine Ce T.JT DY λY A L s H vs Q E hr h=>?_;obtain⟨a,l,rfl,O,h3,q⟩:=h;refine⟨_,(AD (B6 1 DY.nd (nQ (mO AL AL nh) rfl rfl (by simp) Dc)) (AD (Bc xo rfl (BE (pv 0)) (Dz 2 DY.nd) (AF (B6 1 DY.nd (CI hr (RF T) T.Sq (AA (pv 1) (AA (pv 2) AE)))))) (AF (AK (pv 1))))),?_⟩;dsimp only[A0,Cx.Ck];refine AS λp np=>⟨AB,[(Sum.inl 0,V.int 1)],rfl,Dc,?_⟩;rw[CD];refine⟨_,rfl,a,rfl,⟨_,Ah.of ((AI np) _ _ O)⟩,Bh (K:=K) (a:=a) (xs:=Bs l)
  (vy a l H)
  ⟨p,[(0,1)],none,rfl,AI np,np,AB,dI.start⟩ (λi σ H' _ z=>by obtain⟨_,_,_,_,z1,_⟩:=z;exact Ah.of (z1 _ _ O)) ?_ ?_⟩
 .rintro i x σ H1 hx ⟨pc,kvs,v,rfl,J,n,j,B⟩;obtain⟨m,U,rfl⟩:=FN hx;have I:kvs.length<=1728:=by
   have h1:=B.len;have h2:=(xP.mp U).1;rw[xt]at h1;have h4:12 ^ min i l.length<=12 ^ 3:=zb Dc Om;have h5:(12:Nat) ^ 3=1728:=by decide
   lia
  refine⟨_,rfl,_,rfl,pc,kvs,m,rfl,j,I,λH2 p2 more s2 n2 M N=>⟨p2,more,_,rfl,J.trans s2,J.free n2,M,?_⟩⟩;rw[take_succ U];exact B.more N
 .rintro σ H1 ⟨pc,kvs,v,rfl,J,n,j,B⟩;rw[Am,xm]at B;exact⟨_,rfl,q H1 pc kvs J n j B⟩
theorem Oy:∀{fs:List (Str×V)},fs.lookup f=some x->(Ad f v fs).length=fs.length
 |[],h=>by cases h
 |(g,y)::r,h=>by
  unfold Ad;by_cases e:g=f
  .rw[xQ e];rfl
  .rw[xJ e];have j:(f==g)=false:=yF.mpr (x8 e);rw[zR,j]at h;rw[xg,Oy h];rfl
structure WK(fs:List (Str×V))(day:Nat)(lw lk lm:Addr):Prop where
 len:fs.length<=4
 day:fs.lookup ("day":Str)=some (vn day)
 words:fs.lookup ("words":Str)=some (.ref lw)
 marks:fs.lookup ("marks":Str)=some (.ref lk)
 means:fs.lookup ("meanings":Str)=some (.ref lm)
 u9:fs.lookup ("put_marks":Str)=none
 vM:fs.lookup ("has_mark":Str)=none
theorem WK.new(day:Nat)(lw lk lm:Addr):WK (Ad "meanings" (.ref lm) (Ad "marks" (.ref lk) (Ad "words" (.ref lw) (Ad "day" (vn day) [])))) day lw lk lm:=by
 refine⟨?_,?_,?_,?_,?_,?_,?_⟩
 .have h1:=Ar "day" (vn day) [];have h2:=Ar "words" (V.ref lw) (Ad "day" (vn day) []);have j:=Ar "marks" (V.ref lk) (Ad "words" (V.ref lw) (Ad "day" (vn day) []));have n:=Ar "meanings" (V.ref lm) (Ad "marks" (V.ref lk) (Ad "words" (V.ref lw) (Ad "day" (vn day) [])));simp at h1;lia
 .rw[AJ,xJ Dk,AJ,xJ Dk,AJ,xJ Dk,AJ,xQ rfl]
 .rw[AJ,xJ Dk,AJ,xJ Dk,AJ,xQ rfl]
 .rw[AJ,xJ Dk,AJ,xQ rfl]
 .rw[AJ,xQ rfl]
 .rw[AJ,xJ Dk,AJ,xJ Dk,AJ,xJ Dk,AJ,xJ Dk];rfl
 .rw[AJ,xJ Dk,AJ,xJ Dk,AJ,xJ Dk,AJ,xJ Dk];rfl
theorem WK.again{fs:List (Str×V)}{day:Nat}{lw lk lm:Addr}(h:WK fs day lw lk lm)(j n:Addr):WK (Ad "meanings" (.ref n) (Ad "marks" (.ref j) fs)) day lw j n:=by
 refine⟨?_,?_,?_,?_,?_,?_,?_⟩
 .have e:(Ad "marks" (V.ref j) fs).lookup ("meanings":Str)=some (.ref lm):=by rw[AJ,xJ Dk];exact h.means
  rw[Oy e,Oy h.marks];exact h.len
 .rw[AJ,xJ Dk,AJ,xJ Dk];exact h.day
 .rw[AJ,xJ Dk,AJ,xJ Dk];exact h.words
 .rw[AJ,xJ Dk,AJ,xQ rfl]
 .rw[AJ,xQ rfl]
 .rw[AJ,xJ Dk,AJ,xJ Dk];exact h.u9
 .rw[AJ,xJ Dk,AJ,xJ Dk];exact h.vM
inductive Oi(C:Addr)(vs:List V)(H:Hp)(Q:VK)(z3_:XK):Prop
 |mk (p dx lk:Addr) (fs:List (Str×V)) (l:List Nat) (_:vs=[.ref p,.ref lk]) (_:H p=some (.ins C dx fs)) (_:fs.length<900) (_:LI H lk l) (_:l.length<=3) (_:∀H' lm kvs,(∀b o,b≠p->H b=some o->H' b=some o)->H lm=none->H' p=some (.ins C dx (Ad "meanings" (.ref lm) (Ad "marks" (.ref lk) fs)))->H' lm=some (.dK (kvsOf kvs))->dI l kvs->Q .non H')
theorem DB(T:Txt w K mg):FB P w mg base T.Hu 3 (Oi T.Bx):=by
 refine Ce T.Hu OV λY A B s H vs Q E hr h=>?_;obtain⟨p,dx,lk,fs,l,rfl,M,hf,N,h3,q⟩:=h;refine⟨_,(AD (CG (pv 0) (pv 1) rfl) (AF (CG (pv 0) (CI hr (PR T) T.Qo (AA (pv 1) AE)) rfl))),?_⟩;dsimp only[A0,Cx.Ck];refine EA ⟨_,rfl,_,rfl,p,_,dx,fs,rfl,M,T.BC,T.BL,Om,?_⟩;have I:lk≠p:=Dv N M (by intro z;cases z);have J:LI (upd H p (.ins T.Bx dx (Ad "marks" (.ref lk) fs))) lk l:=by unfold LI;rw[AG I];exact N
 refine⟨_,rfl,lk,l,rfl,J,h3,λH2 lm kvs O n hm hM=>?_⟩;have L:=O p _ AB;have aa:=Ar "marks" (V.ref lk) fs;refine⟨_,rfl,p,_,dx,_,rfl,L,T.BC,T.Ea,Om,?_⟩;have j:lm≠p:=λe=>by subst e;rw[AB]at n;cases n
 refine q _ lm kvs (λb o U e=>?_) ?_ AB ?_ hM
 .rw[AG U];exact O _ _ (by rw[AG U];exact e)
 .rw[AG j]at n;exact n
 .rw[AG j];exact hm
inductive WU(C:Addr)(vs:List V)(H:Hp)(Q:VK)(z3_:XK):Prop
 |mk (p dx lw lk:Addr) (d:Nat) (l:List Nat) (_:vs=[.ref p,vn d,.ref lw,.ref lk]) (_:H p=some (.ins C dx [])) (_:LI H lk l) (_:l.length<=3) (_:∀H' lm kvs fs,(∀b o,b≠p->H b=some o->H' b=some o)->H lm=none->H' p=some (.ins C dx fs)->WK fs d lw lk lm->H' lm=some (.dK (kvsOf kvs))->dI l kvs->Q .non H')
theorem V4(T:Txt w K mg):FB P w mg base T.QS 4 (WU T.Bx):=by
 refine Ce T.QS Wd λU A B s H vs Q E Y h=>?_;obtain⟨p,dx,lw,lk,d,l,rfl,L,M,h3,q⟩:=h;refine⟨_,(AD (CG (pv 0) (pv 1) rfl) (AD (CG (pv 0) (pv 2) rfl) (AF (A3 (HN Y (pv 0) T.BC T.DG (DB T) (AA (pv 3) AE)))))),?_⟩;dsimp only[A0,Cx.Ck];refine EA ⟨_,rfl,_,rfl,p,_,dx,[],rfl,L,T.BC,T.KA,(by show 0<1000;decide),?_⟩;refine EA ⟨_,rfl,_,rfl,p,_,dx,_,rfl,AB,T.BC,T.G0,put1 _ _,?_⟩;rw[CD];have I:lk≠p:=Dv M L (by intro z;cases z);have N:=put2 ("day":Str) "words" (vn d) (V.ref lw);have h1:=Ar "day" (vn d) [];have h2:=Ar "words" (V.ref lw) (Ad "day" (vn d) []);refine⟨_,rfl,p,dx,_,rfl,AB,?_,_,rfl,p,dx,lk,_,l,rfl,AB,by simp at h1;lia,?_,h3,λH2 lm kvs hk n J hm hM=>?_⟩
 .rw[AJ,xJ Dk,AJ,xJ Dk];rfl
 .unfold LI;rw[AG I];exact M
 .have j:lm≠p:=λe=>by subst e;rw[AB]at n;cases n
  refine q H2 lm kvs _ (λb o O e=>hk b o O (by rw[AG O];exact e)) ?_ J (WK.new d lw lk lm) hm hM;rw[AG j]at n;exact n
noncomputable def kindS:Sg->Str
 | .topics _=>"topics"
 | .word _=>"#"
 | .until _=>"<"
 | .since _=>">"
 | .not=>"-"
 | .amp=>"&"
 | .bar=>"|"
 | .opn=>"("
 | .cls=>")"
noncomputable def Kt:Sg->Nat
 | .topics m=>m
 | .word w=>w
 | .until d=>d
 | .since d=>d
 |_=>0
def RJ(H:Hp)(a:Addr)(s:Sg):Prop:=H a=some (.tup [.str (kindS s),vn (Kt s)])
inductive GI(H:Hp)(a:Addr)(l:List Sg):Prop
 |mk (as:List Addr) (_:H a=some (.lst (as.map V.ref))) (_:Paired (RJ H) as l)
theorem GI.mono(h:GI H a l)(s:AN H H'):GI H' a l:=by obtain⟨as,h1,h2⟩:=h;exact⟨as,s _ _ h1,Paired.BO (λ_ _ z=>s _ _ z) h2⟩
structure YV(fs:List (Str×V))(e:Nat)(lt lp tl:Addr):Prop where
 len:fs.length<=4
 wq:fs.lookup ("read_by":Str)=some (vn e)
 text:fs.lookup ("text":Str)=some (.ref lt)
 dJ:fs.lookup ("pieces":Str)=some (.ref lp)
 told:fs.lookup ("told":Str)=some (.ref tl)
theorem YV.new(e:Nat)(lt lp tl:Addr):YV (Ad "told" (.ref tl) (Ad "pieces" (.ref lp) (Ad "text" (.ref lt) (Ad "read_by" (vn e) [])))) e lt lp tl:=by
 refine⟨?_,?_,?_,?_,?_⟩
 .have h1:=Ar "read_by" (vn e) [];have h2:=Ar "text" (V.ref lt) (Ad "read_by" (vn e) []);have j:=Ar "pieces" (V.ref lp) (Ad "text" (V.ref lt) (Ad "read_by" (vn e) []));have n:=Ar "told" (V.ref tl) (Ad "pieces" (V.ref lp) (Ad "text" (V.ref lt) (Ad "read_by" (vn e) [])));simp at h1;lia
 .rw[AJ,xJ Dk,AJ,xJ Dk,AJ,xJ Dk,AJ,xQ rfl]
 .rw[AJ,xJ Dk,AJ,xJ Dk,AJ,xQ rfl]
 .rw[AJ,xJ Dk,AJ,xQ rfl]
 .rw[AJ,xQ rfl]
inductive Vv(C:Addr)(vs:List V)(H:Hp)(Q:VK)(z3_:XK):Prop
 |mk (p dx lt lp:Addr) (e:Nat) (_:vs=[.ref p,vn e,.ref lt,.ref lp]) (_:H p=some (.ins C dx [])) (_:∀H' tl fs,(∀b o,b≠p->H b=some o->H' b=some o)->H tl=none->tl≠p->H' p=some (.ins C dx fs)->YV fs e lt lp tl->LI H' tl []->Q .non H')
theorem WI(T:Txt w K mg):FB P w mg base T.Pr 1 (Vv T.CS):=by
 refine Ce T.Pr Vg λL A B s H vs Q E N h=>?_;obtain⟨p,dx,lt,lp,e,rfl,M,q⟩:=h;refine⟨_,(AD (CG (pv 0) (pv 1) rfl) (AD (CG (pv 0) (pv 2) rfl) (AD (CG (pv 0) (pv 3) rfl) (AF (CG (pv 0) (AZ AE) rfl))))),?_⟩;dsimp only[A0,Cx.Ck];refine EA ⟨_,rfl,_,rfl,p,_,dx,[],rfl,M,T.DZ,T.JO,(by show 0<1000;decide),?_⟩;refine EA ⟨_,rfl,_,rfl,p,_,dx,_,rfl,AB,T.DZ,T.Nm,put1 _ _,?_⟩;refine EA ⟨_,rfl,_,rfl,p,_,dx,_,rfl,AB,T.DZ,T.EC,put2 _ _ _ _,?_⟩;rw[CD,CD];refine⟨by show 0<=sizeLine;exact xi _,λtl n=>⟨_,rfl,p,_,dx,Ad "pieces" (.ref lp) (Ad "text" (.ref lt) (Ad "read_by" (vn e) [])),rfl,?_,T.DZ,T.IK,put3 _ _ _ _ _ _,?_⟩⟩
 .have j:p≠tl:=λz=>by rw[<-z,AB]at n;cases n
  rw[AG j,AB]
 .have j:p≠tl:=λz=>by rw[<-z,AB]at n;cases n
  refine q _ tl _ (λb o I z=>?_) ?_ (x8 j) AB (YV.new e lt lp tl) ?_
  .have J:b≠tl:=λw=>by rw[<-w,AG I,z]at n;cases n
   rw[AG I,AG J,AG I];exact z
  .rw[AG (x8 j)]at n;exact n
  .unfold LI;rw[AG (x8 j),AB];rfl
end
structure ow(fs:List (Str×V))(le lp lq lm:Addr):Prop where
 Eu:fs.lookup ("editions":Str)=some (.ref le)
 Sn:fs.lookup ("papers":Str)=some (.ref lp)
 WJ:fs.lookup ("queries":Str)=some (.ref lq)
 uy:fs.lookup ("meant_sets":Str)=some (.ref lm)
 n1:fs.lookup ("has_edition":Str)=none
 n2:fs.lookup ("has_class":Str)=none
 n3:fs.lookup ("class_topics":Str)=none
 n4:fs.lookup ("has_paper":Str)=none
 n5:fs.lookup ("has_query":Str)=none
theorem ow.new(le lp lq lm:Addr):ow (Ad "meant_sets" (.ref lm) (Ad "queries" (.ref lq) (Ad "papers" (.ref lp) (Ad "editions" (.ref le) [])))) le lp lq lm:=by
 refine⟨?_,?_,?_,?_,?_,?_,?_,?_,?_⟩
 .rw[AJ,xJ Dk,AJ,xJ Dk,AJ,xJ Dk,AJ,xQ rfl]
 .rw[AJ,xJ Dk,AJ,xJ Dk,AJ,xQ rfl]
 .rw[AJ,xJ Dk,AJ,xQ rfl]
 .rw[AJ,xQ rfl]
 all_goals rw[AJ,xJ Dk,AJ,xJ Dk,AJ,xJ Dk,AJ,xJ Dk];rfl
inductive F6(C:Addr)(H Hm:Hp)(a:Addr)(p:Vbptal.Paper):Prop
 |mk (dx lw lk lm:Addr) (kvs:List (Nat×Nat)) (fs:List (Str×V)) (_:H a=some (.ins C dx fs)) (_:WK fs p.day lw lk lm) (_:LI Hm lw p.words) (_:LI Hm lk p.marks) (_:Hm lm=some (.dK (kvsOf kvs))) (_:dI p.marks kvs)
def Kh(C:Addr)(H j:Hp):Option (Addr×Addr)->Option Vbptal.Asked->Prop
 |none,none=>True
 |some (a,t),some k=>∃(dx lt lp:Addr)(fs:List (Str×V)),j a=some (.ins C dx fs)/\YV fs k.edition lt lp t/\LI j lt k.text/\GI j lp ((post k.query).map Fc)/\LI H t k.told
 |_,_=>False
noncomputable def qV:Option (Addr×Addr)->V
 |none=>.non
 |some (a,_)=>.ref a
noncomputable def EY(qs:List (Option (Addr×Addr))):List Addr:=qs.filterMap λq=>q.map (·.2)
theorem F6.mono(h:F6 C H q a p)(s:∀o,H a=some o->H' a=some o)(j:AN q n):F6 C H' n a p:=by obtain⟨dx,lw,lk,lm,kvs,fs,h1,h2,z,B,I,J⟩:=h;exact⟨dx,lw,lk,lm,kvs,fs,s _ h1,h2,z.mono j,B.mono j,j _ _ I,J⟩
theorem Kh.mono(h:Kh C H z q k)(s:∀a t o,q=some (a,t)->H t=some o->H' t=some o)(j:AN z n):Kh C H' n q k:=by
 cases q with
 |none=>cases k with
  |none=>trivial
  |some k=>exact h
 |some at_=>
  obtain⟨a,t⟩:=at_;cases k with
  |none=>exact h
  |some k=>obtain⟨dx,lt,lp,fs,h1,h2,B,I,J⟩:=h;exact⟨dx,lt,lp,fs,j _ _ h1,h2,B.mono j,I.mono j,s a t _ rfl J⟩
section
variable{P:Program}{w:World}{K:PySem.W.Frag}{mg:Str->Option Value}{base:Heap}
structure BX(T:Txt w K mg)(F:List Addr)(H:Hp)(r:Addr)(s:Vbptal.State)(Mu:List Addr)(dx le lp lq lm:Addr)(es ps:List Addr)(qs:List (Option (Addr×Addr)))(fs:List (Str×V)):Prop where
 mu:Mu=le::lp::lq::(ps++(EY qs++F))
 nd:Mu.Nodup
 fr:∀b∈F,H b≠none
 X0:CE.Bl Mu H r=some (.ins T.Ao dx fs)
 rf:ow fs le lp lq lm
 el:H le=some (.lst (es.map V.ref))
 Eu:Paired (λa e=>Jo T.A1 T.AX (CE.Bl Mu H) a e (Vbptal.shownEdition e)) es s.editions
 pl:H lp=some (.lst (ps.map V.ref))
 Sn:Paired (F6 T.Bx H (CE.Bl Mu H)) ps s.papers
 ql:H lq=some (.lst (qs.map qV))
 WJ:Paired (Kh T.CS H (CE.Bl Mu H)) qs s.asked
 ms:Yc T.An (CE.Bl Mu H) lm
inductive Rep(T:Txt w K mg)(F:List Addr)(H:Hp)(r:Addr)(s:Vbptal.State)(Mu:List Addr):Prop
 |mk (dx le lp lq lm es ps qs fs) (_:BX T F H r s Mu dx le lp lq lm es ps qs fs)
theorem BX.mono{T:Txt w K mg}{F:List Addr}{H H':Hp}{r:Addr}{s:Vbptal.State}{Mu:List Addr}{dx le lp lq lm:Addr}{es ps:List Addr}{qs:List (Option (Addr×Addr))}{fs:List (Str×V)}(h:BX T F H r s Mu dx le lp lq lm es ps qs fs)(j:AN H H'):BX T F H' r s Mu dx le lp lq lm es ps qs fs:=
 ⟨h.mu,h.nd,λb n z=>h.fr b n (j.free z),(AN.Bl j) _ _ h.X0,h.rf,j _ _ h.el,Paired.BO (λ_ _ z=>z.mono (AN.Bl j)) h.Eu,j _ _ h.pl,Paired.BO (λ_ _ z=>z.mono (λo e=>j _ _ e) (AN.Bl j)) h.Sn,
  j _ _ h.ql,Paired.BO (λ_ _ z=>z.mono (λ_ t o _ e=>j _ _ e) (AN.Bl j)) h.WJ,h.ms.mono (AN.Bl j)⟩
theorem Rep.mono{T:Txt w K mg}{F:List Addr}{H H':Hp}{r:Addr}{s:Vbptal.State}{Mu:List Addr}(h:Rep T F H r s Mu)(j:AN H H'):Rep T F H' r s Mu:=by obtain⟨dx,le,lp,lq,lm,es,ps,qs,fs,h⟩:=h;exact⟨dx,le,lp,lq,lm,es,ps,qs,fs,h.mono j⟩
theorem Qz:∀{qs:List (Option (Addr×Addr))}{ks:List (Option Vbptal.Asked)},Paired (Kh C H I) qs ks->∀t∈EY qs,H t≠none
 |_,_,.nil,t,j=>by simp[EY]at j
 |q::qs,k::ks,.cons r B,t,j=>by
  unfold EY at j;rw[zf]at j;cases q with
  |none=>exact Qz B t j
  |some at_=>
   obtain⟨a,t'⟩:=at_;rcases xb.mp j with e|e
   .cases k with
    |none=>exact absurd r id
    |some k=>obtain⟨_,_,_,_,_,_,_,_,n⟩:=r;have e:t=t':=e;rw[e];intro z;unfold LI at n;rw[z]at n;cases n
   .exact Qz B t e
theorem BX.there{T:Txt w K mg}{F:List Addr}{H:Hp}{r:Addr}{s:Vbptal.State}{Mu:List Addr}{dx le lp lq lm:Addr}{es ps:List Addr}{qs:List (Option (Addr×Addr))}{fs:List (Str×V)}(h:BX T F H r s Mu dx le lp lq lm es ps qs fs):∀b∈Mu,H b≠none:=by
 intro b j z;rw[h.mu]at j;simp only[xb,xq]at j;rcases j with e|e|e|e|e|e
 .rw[e,h.el]at z;cases z
 .rw[e,h.pl]at z;cases z
 .rw[e,h.ql]at z;cases z
 .obtain⟨i,hi⟩:=y6 e;obtain⟨p,_,_,_,_,_,_,_,n,_⟩:=Av i b h.Sn hi;rw[n]at z;cases z
 .exact Qz h.WJ b e z
 .exact h.fr b e z
theorem Rep.there{T:Txt w K mg}{F:List Addr}{H:Hp}{r:Addr}{s:Vbptal.State}{Mu:List Addr}(h:Rep T F H r s Mu):∀b∈Mu,H b≠none:=by obtain⟨dx,le,lp,lq,lm,es,ps,qs,fs,h⟩:=h;exact h.there
theorem Rep.out{T:Txt w K mg}{F:List Addr}{H:Hp}{r:Addr}{s:Vbptal.State}{Mu:List Addr}(h:Rep T F H r s Mu){p:Addr}(j:H p=none):p∉Mu:=λz=>h.there p z j
theorem JV(h:∀b o,b∉Mu->H b=some o->b∉j/\H' b=some o):AN (CE.Bl Mu H) (CE.Bl j H'):=λb o e=>by
 have n:b∉Mu:=λz=>by rw[Fv z]at e;cases e
 rw[As n]at e;obtain⟨h1,h2⟩:=h b o n e;rw[As h1];exact h2
theorem BX.BP{T:Txt w K mg}{F:List Addr}{H:Hp}{r:Addr}{s:Vbptal.State}{Mu:List Addr}{dx le lp lq lm:Addr}{es ps:List Addr}{qs:List (Option (Addr×Addr))}{fs:List (Str×V)}(h:BX T F H r s Mu dx le lp lq lm es ps qs fs):H r=some (.ins T.Ao dx fs):=Af _ _ _ _ h.X0
theorem BX.dg{T:Txt w K mg}{F:List Addr}{H:Hp}{r:Addr}{s:Vbptal.State}{Mu:List Addr}{dx le lp lq lm:Addr}{es ps:List Addr}{qs:List (Option (Addr×Addr))}{fs:List (Str×V)}(h:BX T F H r s Mu dx le lp lq lm es ps qs fs):(es.map V.ref).length=s.editions.length:=by rw[xH];exact AR h.Eu
theorem BX.ic{T:Txt w K mg}{F:List Addr}{H:Hp}{r:Addr}{s:Vbptal.State}{Mu:List Addr}{dx le lp lq lm:Addr}{es ps:List Addr}{qs:List (Option (Addr×Addr))}{fs:List (Str×V)}(h:BX T F H r s Mu dx le lp lq lm es ps qs fs):(ps.map V.ref).length=s.papers.length:=by rw[xH];exact AR h.Sn
inductive Jq(T:Txt w K mg)(vs:List V)(H:Hp)(Q:VK)(z3_:XK):Prop
 |mk (F:List Addr) (r:Addr) (s:Vbptal.State) (Mu:List Addr) (e:Nat) (_:vs=[.ref r,vn e]) (_:Rep T F H r s Mu) (_:Q (.bl (decide (e<s.editions.length))) H)
theorem IS(a b:Nat):decide (((a:Nat):Int)< ((b:Nat):Int))=decide (a<b):=by
 by_cases h:a<b
 .rw[xR h,xR Om]
 .rw[xV h,xV Om]
theorem BF(T:Txt w K mg):FB P w mg base T.E1 1 (Jq T):=by refine Ce T.E1 Je λn A j s H vs Q E z h=>?_;obtain⟨F,r,st,Mu,e,rfl,⟨dx,le,lp,lq,lm,es,ps,qs,fs,R⟩,q⟩:=h;refine⟨_,(AF (AK (Eh Nz (pv 1) (IM T.Be (AO (pv 0) rfl)) (G5 _)))),?_⟩;dsimp only[A0,Cx.Ck];refine⟨_,rfl,_,rfl,r,_,dx,_,_,rfl,R.BP,T.AM,T.AY,R.rf.Eu,le,_,rfl,.inl (Ah.of R.el),_,_,rfl,rfl,?_⟩;rw[R.dg];show Q (.bl (decide (((e:Nat):Int)< ((st.editions.length:Nat):Int)))) H;rw[IS];exact q
inductive ME(T:Txt w K mg)(vs:List V)(H:Hp)(Q:VK)(z3_:XK):Prop
 |mk (F:List Addr) (r:Addr) (s:Vbptal.State) (Mu:List Addr) (e:Nat) (_:vs=[.ref r,vn e]) (_:Rep T F H r s Mu) (_:Q (.bl (decide (e<s.papers.length))) H)
theorem B3(T:Txt w K mg):FB P w mg base T.GK 1 (ME T):=by refine Ce T.GK MI λn A j s H vs Q E z h=>?_;obtain⟨F,r,st,Mu,e,rfl,⟨dx,le,lp,lq,lm,es,ps,qs,fs,R⟩,q⟩:=h;refine⟨_,(AF (AK (Eh Nz (pv 1) (IM T.Be (AO (pv 0) rfl)) (G5 _)))),?_⟩;dsimp only[A0,Cx.Ck];refine⟨_,rfl,_,rfl,r,_,dx,_,_,rfl,R.BP,T.AM,T.Aq,R.rf.Sn,lp,_,rfl,.inl (Ah.of R.pl),_,_,rfl,rfl,?_⟩;rw[R.ic];show Q (.bl (decide (((e:Nat):Int)< ((st.papers.length:Nat):Int)))) H;rw[IS];exact q
noncomputable def hasCls(s:Vbptal.State)(e c:Nat):Bool:=match s.editions[e]? with
 |none=>false
 |some x=>decide (c<x.length)
inductive Lj(T:Txt w K mg)(vs:List V)(H:Hp)(Q:VK)(z3_:XK):Prop
 |mk (F:List Addr) (r:Addr) (s:Vbptal.State) (Mu:List Addr) (e c:Nat) (_:vs=[.ref r,vn e,vn c]) (_:Rep T F H r s Mu) (_:Q (.bl (hasCls s e c)) H)
theorem BU(T:Txt w K mg):FB P w mg base T.F2 2 (Lj T):=by
 refine Ce T.F2 MB λL A z s H vs Q E I h=>?_;obtain⟨F,r,st,Mu,e,c,rfl,⟨dx,le,lp,lq,lm,es,ps,qs,fs,R⟩,q⟩:=h;refine⟨_,(AF (AK (kD (HN I (pv 0) T.AM T.BH (BF T) (AA (pv 1) AE)) (de (HN I (Cv (AO (pv 0) rfl) (pv 1)) T.BN T.MT (L8 T) (AA (pv 2) AE)))))),?_⟩;dsimp only[A0,Cx.Ck];refine⟨_,rfl,r,dx,_,rfl,R.BP,R.rf.n1,_,rfl,F,r,st,Mu,e,rfl,⟨dx,le,lp,lq,lm,es,ps,qs,fs,R⟩,_,rfl,?_⟩;by_cases h:e<st.editions.length
 .rw[xR h];have J:st.editions[e]?=some st.editions[e]:=xW h;obtain⟨a,M,N⟩:=Bu e _ R.Eu J;have n:=Jo.mono N (Af _ _);obtain⟨B,lt,O,h1,h2,U⟩:=id n;refine EG ⟨_,rfl,r,_,dx,_,_,rfl,R.BP,T.AM,T.AY,R.rf.Eu,_,rfl,le,_,_,_,rfl,rfl,Ah.of R.el,at_of (j:=e) rfl (by rw[xh,M];rfl),a,B,_,rfl,h1,bD _ _ Dk Dk,_,rfl,a,st.editions[e],_,(c:Int),rfl,n,?_⟩;have:hasCls st e c=decide ((c:Int)< ((st.editions[e].length:Nat):Int)):=by unfold hasCls;rw[J,IS]
  rw[this]at q;exact q
 .rw[xV h];have:hasCls st e c=false:=by unfold hasCls;rw[yc Om]
  rw[this]at q;exact ED q
inductive Il(T:Txt w K mg)(vs:List V)(H:Hp)(Q:VK)(z3_:XK):Prop
 |mk (F:List Addr) (r:Addr) (s:Vbptal.State) (Mu:List Addr) (e c:Nat) (x:Vbptal.Edition) (y:Vbptal.Class) (_:vs=[.ref r,vn e,vn c]) (_:Rep T F H r s Mu) (_:s.editions[e]?=some x) (_:x[c]?=some y) (_:Q (vn y.mask) H)
theorem A8(T:Txt w K mg):FB P w mg base T.Ee 1 (Il T):=by
 refine Ce T.Ee JM λI A n s H vs Q E hr h=>?_;obtain⟨F,r,st,Mu,e,c,x,y,rfl,⟨dx,le,lp,lq,lm,es,ps,qs,fs,R⟩,J,L,q⟩:=h;refine⟨_,(AF (AK (AO (Cv (AO (Cv (AO (pv 0) rfl) (pv 1)) rfl) (pv 2)) rfl))),?_⟩;dsimp only[A0,Cx.Ck];obtain⟨a,M,N⟩:=Bu e _ R.Eu J;obtain⟨z,lt,O,h1,h2,as,U,Y⟩:=Jo.mono N (Af _ _);obtain⟨b,hb,dc,aa,B,ab⟩:=Bu c _ Y L;exact⟨_,rfl,r,_,dx,_,_,rfl,R.BP,T.AM,T.AY,R.rf.Eu,_,rfl,le,_,_,_,rfl,rfl,Ah.of R.el,at_of (j:=e) rfl (by rw[xh,M];rfl),a,_,z,_,_,rfl,h1,T.BN,T.Ax,Cu _ _,_,rfl,O,_,_,_,rfl,rfl,Ah.of U,at_of (j:=c) rfl (by rw[xh,hb];rfl),
  b,_,dc,_,_,rfl,B,T.Aa,T.Ae,Bt _ _ _,q⟩
inductive K0(T:Txt w K mg)(vs:List V)(H:Hp)(Q:VK)(z3_:XK):Prop
 |mk (F:List Addr) (r:Addr) (s:Vbptal.State) (Mu:List Addr) (k:Nat) (x:Option Vbptal.Asked) (_:vs=[.ref r,vn k]) (_:Rep T F H r s Mu) (_:s.asked[k]?=some x) (_:Q (.bl x.isSome) H)
theorem FX(T:Txt w K mg):FB P w mg base T.F9 1 (K0 T):=by
 refine Ce T.F9 K7 λJ A n s H vs Q E M h=>?_;obtain⟨F,r,st,Mu,k,x,rfl,⟨dx,le,lp,lq,lm,es,ps,qs,fs,R⟩,L,q⟩:=h;refine⟨_,(AF (AK (Eh oq (Cv (AO (pv 0) rfl) (pv 1)) B9 (G5 _)))),?_⟩;dsimp only[A0,Cx.Ck];obtain⟨B,z,I⟩:=Bu k _ R.WJ L;refine⟨_,rfl,r,_,dx,_,_,rfl,R.BP,T.AM,T.BG,R.rf.WJ,_,rfl,lq,_,_,_,rfl,rfl,Ah.of R.ql,at_of (j:=k) rfl (by rw[xh,z];rfl),rfl,?_⟩;have e:(!decide (qV B=V.non))=x.isSome:=by
  cases B with
  |none=>cases x with
   |none=>rfl
   |some _=>exact absurd I id
  |some at_=>cases x with
   |none=>exact absurd I id
   |some _=>rfl
 rw[e];exact q
def Ro(H:Hp)(j:List Int)(Q:VK):Prop:=∀H' p,AN H H'->H p=none->LZ H' p j->Q (.ref p) H'
def Wr(T:Txt w K mg)(F:List Addr)(H:Hp)(r:Addr)(Mu:List Addr)(s':Vbptal.State)(n:List Int)(Q:VK):Prop:=
 ∀H' p j,AN (CE.Bl Mu H) (CE.Bl j H')->(∀b∈F,H' b=H b)->Rep T F H' r s' j->LZ (CE.Bl j H') p n->Q (.ref p) H'
theorem Ro.lst(h:Ro H j Q)(s:AN H H1)(e:xs=j.map V.int):∀p,H1 p=none->Q (.ref p) (upd H1 p (.lst xs)):=λp n=>by subst e;exact h _ p (s.trans (AI n)) (s.free n) AB
theorem Wr.ro{T:Txt w K mg}{F:List Addr}{H:Hp}{r:Addr}{Mu:List Addr}{s:Vbptal.State}{j:List Int}{Q:VK}(h:Wr T F H r Mu s j Q)(R:Rep T F H r s Mu):Ro H j Q:=λH' p n np hz=>by
 have q:p∉Mu:=R.out np;refine h H' p Mu (AN.Bl n) (λb B=>?_) (R.mono n) ?_
 .obtain⟨dx,le,lp,lq,lm,es,ps,qs,fs,R⟩:=R;cases z:H b with
  |none=>exact absurd z (R.fr b B)
  |some o=>exact n _ _ z
 .unfold LZ;rw[As q];exact hz
theorem AW(h:n<=1000):n<=sizeLine:=Mf Om
inductive wk(T:Txt w K mg)(H:Hp)(es:List Addr)(e:Nat)(x:Vbptal.Edition):Prop
 |mk (a:Addr) (_:(es.map V.ref)[e]?=some (.ref a)) (_:Jo T.A1 T.AX H a x (Vbptal.shownEdition x))
theorem BX.ed{T:Txt w K mg}{F:List Addr}{H:Hp}{r:Addr}{s:Vbptal.State}{Mu:List Addr}{dx le lp lq lm:Addr}{es ps:List Addr}{qs:List (Option (Addr×Addr))}{fs:List (Str×V)}(h:BX T F H r s Mu dx le lp lq lm es ps qs fs){e:Nat}{x:Vbptal.Edition}(j:s.editions[e]?=some x):
  wk T H es e x:=by
 obtain⟨a,n,q⟩:=Bu e _ h.Eu j;exact⟨a,by rw[xh,n];rfl,Jo.mono q (Af _ _)⟩
theorem QI(h:Vbptal.isCode t=true):t.length<=6:=by
 cases t with
 |nil=>simp
 |cons c r=>have h:(Vbptal.isCapital c && (decide (r.length<=5) && r.all λx=>Vbptal.isCapital x|| Vbptal.isDigit x))=true:=h;simp only[x4,yN]at h;rw[xg];lia
theorem Mh{s:Vbptal.State}{e:Nat}{f:Vbptal.Edition->Vbptal.State×Vbptal.Answer}(h:decide (e<s.editions.length)=false):Vbptal.onEdition s (e:Int) f=(s,[-7]):=by unfold Vbptal.onEdition Vbptal.editionAt;rw[yG,yc (by have:=xc h;lia)]
theorem Gq{s:Vbptal.State}{e:Nat}{x:Vbptal.Edition}{f:Vbptal.Edition->Vbptal.State×Vbptal.Answer}(h:s.editions[e]?=some x):Vbptal.onEdition s (e:Int) f=f x:=by unfold Vbptal.onEdition Vbptal.editionAt;rw[yG,h]
theorem MW(h:hasCls s e c=false):Vbptal.onClass s (e:Int) (c:Int) f=(s,[-7]):=by
 unfold hasCls at h;unfold Vbptal.onClass Vbptal.editionAt;rw[yG,yG];cases z:s.editions[e]? with
 |none=>rfl
 |some x=>rw[z]at h;have h:decide (c<x.length)=false:=h;show(match x[c]? with|none=>_|some y=>_)=_;rw[yc (by have:=xc h;lia)]
theorem Eo{s:Vbptal.State}{e c:Nat}{x:Vbptal.Edition}{y:Vbptal.Class}{f:Vbptal.Edition->Vbptal.Class->Vbptal.State×Vbptal.Answer}(h:s.editions[e]?=some x)(h2:x[c]?=some y):Vbptal.onClass s (e:Int) (c:Int) f=f x y:=by unfold Vbptal.onClass Vbptal.editionAt;rw[yG,yG,h];show(match x[c]? with|none=>_|some y=>_)=_;rw[h2]
inductive vY(s:Vbptal.State)(e c:Nat):Prop
 |mk (x:Vbptal.Edition) (y:Vbptal.Class) (_:s.editions[e]?=some x) (_:x[c]?=some y)
theorem C6(h:hasCls s e c=true):vY s e c:=by
 unfold hasCls at h;cases z:s.editions[e]? with
 |none=>rw[z]at h;cases h
 |some x=>rw[z]at h;have h:decide (c<x.length)=true:=h;exact⟨x,x[c]'(xI h),z,xW _⟩
theorem HE{j:Type}{l:List j}{i:Nat}(h:decide (i<l.length)=true):∃x,l[i]?=some x:=⟨_,xW (xI h)⟩
inductive ZI(T:Txt w K mg)(vs:List V)(H:Hp)(Q:VK)(z3_:XK):Prop
 |mk (F:List Addr) (r:Addr) (s:Vbptal.State) (Mu:List Addr) (e:Nat) (_:vs=[.ref r,vn e]) (_:Rep T F H r s Mu) (_:Ro H (Vbptal.act s (.text (e:Int))).2 Q)
theorem ZR(T:Txt w K mg):FB P w mg base T.Rz 2 (ZI T):=by
 refine Ce T.Rz Yn λJ A n s H vs Q E L h=>?_;obtain⟨F,r,st,Mu,e,rfl,B,q⟩:=h;obtain⟨dx,le,lp,lq,lm,es,ps,qs,fs,R⟩:=id B;refine⟨_,(AD (Ab (Ba (A7 (HN L (pv 0) T.AM T.BH (BF T) (AA (pv 1) AE)))) (AF (AK (AZ (AA (gi T.CM) AE)))) AQ) (AF (AK (RS Yz (by rfl) T.sX eE (AA (AO (Cv (AO (pv 0) rfl) (pv 1)) rfl) AE))))),?_⟩;dsimp only[A0,Cx.Ck];refine AU (!decide (e<st.editions.length)) (λQ q=>⟨_,rfl,r,dx,_,rfl,R.BP,R.rf.n1,_,rfl,F,r,st,Mu,e,rfl,B,_,rfl,q⟩) (λh=>?_) (λh=>?_)
 .rw[show Vbptal.act st (.text (e:Int))=(st,[-7])from Mh (by simpa using h)]at q;exact⟨AW Dc,q.lst (AN.refl _) rfl⟩
 .obtain⟨x,I⟩:=HE (l:=st.editions) (i:=e) (by simpa using h);rw[show Vbptal.act st (.text (e:Int))=(st,Vbptal.ints (Vbptal.shownEdition x))from Gq I]at q;obtain⟨a,M,z,lt,N,h1,h2,O⟩:=R.ed I;exact⟨_,rfl,r,_,dx,_,_,rfl,R.BP,T.AM,T.AY,R.rf.Eu,_,rfl,le,_,_,_,rfl,rfl,Ah.of R.el,at_of (j:=e) rfl M,
   a,_,z,_,_,rfl,h1,T.BN,T.KZ,nr _ _,lt,_,rfl,.inl h2.sq,q.lst (AN.refl _) (Fn _)⟩
inductive Vz(T:Txt w K mg)(vs:List V)(H:Hp)(Q:VK)(z3_:XK):Prop
 |mk (F:List Addr) (r:Addr) (s:Vbptal.State) (Mu:List Addr) (e c:Nat) (_:vs=[.ref r,vn e,vn c]) (_:Rep T F H r s Mu) (_:B8 s) (_:Ro H (Vbptal.act s (.class_ (e:Int) (c:Int))).2 Q)
theorem Ve(T:Txt w K mg):FB P w mg base T.QP 3 (Vz T):=by
 refine Ce T.QP IF λaa A J s H vs Q E Y h=>?_;obtain⟨F,r,st,Mu,e,c,rfl,hR,ok,q⟩:=h;obtain⟨dx,le,lp,lq,lm,es,ps,qs,fs,R⟩:=id hR;refine⟨_,(AD (Ab (Ba (A7 (HN Y (pv 0) T.AM T.BS (BU T) (AA (pv 1) (AA (pv 2) AE))))) (AF (AK (AZ (AA (gi T.CM) AE)))) AQ) (AD (B6 3 IF.nd (Cv (AO (pv 0) rfl) (pv 1))) (AD (B6 4 IF.nd (Cv (AO (pv 3) rfl) (pv 2))) (AF (AK (Ap DF (AZ (AA (Ap EK (AO (pv 4) rfl) AL) (AA (AO (pv 4) rfl) (AA (HN Y (pv 3) T.BN T.CT (CV T) (AA (pv 2) AE)) AE)))) (AO (pv 4) rfl))))))),?_⟩;dsimp only[A0,Cx.Ck];refine AU (!hasCls st e c) (λQ q=>⟨_,rfl,r,dx,_,rfl,R.BP,R.rf.n2,_,rfl,_,rfl,F,r,st,Mu,e,c,rfl,hR,_,rfl,q⟩) (λh=>?_) (λh=>?_)
 .rw[show Vbptal.act st (.class_ (e:Int) (c:Int))=(st,[-7])from MW (by simpa using h)]at q;exact⟨AW Dc,q.lst (AN.refl _) rfl⟩
 .obtain⟨x,y,L,I⟩:=C6 (s:=st) (e:=e) (c:=c) (by simpa using h);rw[show Vbptal.act st (.class_ (e:Int) (c:Int))=_ from Eo L I,yG]at q;obtain⟨a,ha,hE⟩:=R.ed L;obtain⟨z,lt,lc,h1,h2,as,h3,h4⟩:=id hE;obtain⟨b,hb,M,N,n,O⟩:=Bu c _ h4 I;have B:=ok.II x (xO L);have ab:=QI (B.cls c y I).2.2.1;refine AS ⟨_,rfl,r,_,dx,_,_,rfl,R.BP,T.AM,T.AY,R.rf.Eu,_,rfl,le,_,_,_,rfl,rfl,Ah.of R.el,at_of (j:=e) rfl ha,?_⟩;refine AS ⟨_,rfl,a,_,z,_,_,rfl,h1,T.BN,T.Ax,Cu _ _,_,rfl,lc,_,_,_,rfl,rfl,Ah.of h3,at_of (j:=c) rfl (by rw[xh,hb];rfl),?_⟩;refine⟨_,rfl,b,_,M,_,_,rfl,n,T.Aa,T.Bb,Ih _ _ _,_,_,rfl,rfl,_,rfl,b,_,M,_,_,rfl,n,T.Aa,T.Ae,Bt _ _ _,_,rfl,a,z,_,rfl,h1,bD _ _ Dk Dk,_,rfl,a,x,_,c,rfl,hE,B,(xP.mp I).1,AW (by show 3<=1000;decide),λp1 U=>?_⟩;refine⟨_,rfl,b,_,M,_,_,rfl,(AI U) _ _ n,T.Aa,T.Cy,Tt _ _ _,p1,N,_,_,rfl,rfl,AB,(AI U) _ _ O,?_,?_⟩
  .rw[Am];exact AW (by simp;lia)
  .refine q.lst (AI U) ?_;have eo:∀o:Option Nat,V.int (lC o+(1:Int))=vn (match o with|none=>0|some i=>i+1):=λo=>by
    cases o with
    |none=>rfl
    |some i=>show V.int ((i:Int)+1)=V.int ((i+1:Nat):Int);rw[Int.natCast_add];rfl
   show[V.int (lC y.over+1),vn y.mask,vn (Vbptal.own x c)]++Bs y.code=_;rw[eo,Fn];rfl
theorem DE(l:List Nat):Vbptal.counted l=(((Vbptal.ints l).length:Nat):Int)::Vbptal.ints l:=by unfold Vbptal.counted;rw[show(Vbptal.ints l).length=l.length from xH ..]
theorem A9(l:List Nat):(Vbptal.ints l).length=l.length:=xH ..
theorem Hj(e:Vbptal.Edition)(m:Nat):(Vbptal.meeting e m).length<=e.length:=by have:=yI (λi=>Vbptal.meet (Vbptal.own e i) m !=0) (List.range e.length);rw[yl]at this;exact this
theorem dU(h:i∈Vbptal.meeting e m):i<e.length:=yZ.mp (yH.mp h).1
inductive S1(T:Txt w K mg)(vs:List V)(H:Hp)(Q:VK)(z3_:XK):Prop
 |mk (F:List Addr) (r:Addr) (s:Vbptal.State) (Mu:List Addr) (e c f:Nat) (_:vs=[.ref r,vn e,vn c,vn f]) (_:Rep T F H r s Mu) (_:B8 s) (_:Ro H (Vbptal.act s (.concord (e:Int) (c:Int) (f:Int))).2 Q)
theorem Su(T:Txt w K mg):FB P w mg base T.L0 4 (S1 T):=by
 refine Ce T.L0 Fo λaa A M s H vs Q E n h=>?_;obtain⟨F,r,st,Mu,e,c,f,rfl,L,ok,q⟩:=h;obtain⟨dx,le,lp,lq,lm,es,ps,qs,fs,R⟩:=id L;refine⟨_,(AD (Ab (PW.pt (Ds (Ba (A7 (HN n (pv 0) T.AM T.BS (BU T) (AA (pv 1) (AA (pv 2) AE))))) (DC (Ba (A7 (HN n (pv 0) T.AM T.BH (BF T) (AA (pv 3) AE))))))) (AF (AK (AZ (AA (gi T.CM) AE)))) AQ) (AD (B6 4 Fo.nd (HN n (pv 0) T.AM T.BB (A8 T) (AA (pv 1) (AA (pv 2) AE)))) (AD (B6 5 Fo.nd (Cv (AO (pv 0) rfl) (pv 3))) (AF (AK (Ap DF (CI n (Cs T) T.DQ (AA (CI n (C7 T) T.DX (AA (pv 5) (AA (pv 4) AE))) AE)) (AZ (AA (CI n (Ku T) T.Le (AA (pv 5) (AA (pv 4) AE))) AE)))))))),?_⟩;dsimp only[A0,Cx.Ck];refine AU (!hasCls st e c|| !decide (f<st.editions.length)) (λQ q=>⟨_,rfl,r,dx,_,rfl,R.BP,R.rf.n2,_,rfl,_,rfl,F,r,st,Mu,e,c,rfl,L,_,rfl,?_⟩) (λh=>?_) (λh=>?_)
 .refine N4 (R:=λb=>Q b H) (λh=>?_) (λh=>?_)
  .rw[h]at q;exact q
  .rw[h,yo]at q;exact⟨_,rfl,r,dx,_,rfl,R.BP,R.rf.n1,_,rfl,F,r,st,Mu,f,rfl,L,_,rfl,q⟩
 .have ea:(Vbptal.act st (.concord (e:Int) (c:Int) (f:Int))).2=[-7]:=by
   cases N:hasCls st e c with
   |false=>exact x3 Prod.snd (MW N)
   |true=>obtain⟨x,y,B,I⟩:=C6 N;rw[N]at h;rw[show Vbptal.act st (.concord (e:Int) (c:Int) (f:Int))=_ from Eo B I];exact x3 Prod.snd (Mh (by simpa using h))
  rw[ea]at q;exact⟨AW Dc,q.lst (AN.refl _) rfl⟩
 .rw[yU]at h;obtain⟨x,y,B,I⟩:=C6 (s:=st) (e:=e) (c:=c) (by simpa using h.1);obtain⟨z,hz⟩:=HE (l:=st.editions) (i:=f) (by simpa using h.2);rw[show Vbptal.act st (.concord (e:Int) (c:Int) (f:Int))=_ from Eo B I,Gq hz]at q;obtain⟨a,ha,O⟩:=R.ed hz;have J:=ok.II z (xO hz);have hm:=((ok.II x (xO B)).cls c y I).1;refine AS ⟨_,rfl,r,dx,_,rfl,R.BP,R.rf.n3,_,rfl,_,rfl,F,r,st,Mu,e,c,x,y,rfl,L,B,I,?_⟩;refine AS ⟨_,rfl,r,_,dx,_,_,rfl,R.BP,T.AM,T.AY,R.rf.Eu,_,rfl,le,_,_,_,rfl,rfl,Ah.of R.el,at_of (j:=f) rfl ha,?_⟩;have ab:=Hj z y.mask;have ae:=J.len;refine⟨_,rfl,_,rfl,a,z,_,y.mask,rfl,O,J,λH1 p1 U n1 g1=>⟨p1,_,rfl,g1.z,?_,λH2 p2 Y n2 g2=>?_⟩⟩
  .rw[A9];lia
  .rw[<-DE]at g2;refine⟨_,rfl,_,rfl,a,z,_,y.mask,rfl,O.mono (U.trans Y),hm,AW (by show 1<=1000;decide),λp3 n3=>⟨p2,p3,_,_,rfl,rfl,(AI n3) _ _ g2,AB,?_,?_⟩⟩
   .rw[xH];unfold Vbptal.counted;rw[xg,A9];exact AW (by simp;lia)
   .refine q.lst (U.trans (Y.trans (AI n3))) ?_;rw[xX];rfl
theorem YI(i:Nat)(l:List Nat):rJ (vn i) (Bs l)=l.contains i:=by
 unfold rJ Bs;rw[List.any_map,List.contains_eq_any_beq]
 congr 1
 funext y;show(((y:Nat):Int)==((i:Nat):Int))=(i==y);by_cases h:i=y
 .subst h;simp
 .rw[yF.mpr h,yF.mpr Om]
theorem Ur(l:List Nat):(Bs l).all Pe=true:=by unfold Bs;rw[ABE];exact xk.mpr λ_ _=>rfl
theorem RG{n:Type}{l:List n}{i:Nat}{x:n}{p:n->Bool}(h:l[i]?=some x):(l.take (i+1)).filter p=(l.take i).filter p++(if p x=true then[x]else[]):=by
 rw[take_succ h,yV]
 congr 1
 by_cases j:p x=true
 .rw[xQ j,zH j];rfl
 .rw[xJ j,zI j];rfl
inductive S5(T:Txt w K mg)(vs:List V)(H:Hp)(Q:VK)(z3_:XK):Prop
 |mk (F:List Addr) (r:Addr) (s:Vbptal.State) (Mu:List Addr) (e f g c:Nat) (_:vs=[.ref r,vn e,vn f,vn g,vn c]) (_:Rep T F H r s Mu) (_:B8 s) (_:Ro H (Vbptal.act s (.through (e:Int) (f:Int) (g:Int) (c:Int))).2 Q)
theorem TH(T:Txt w K mg):FB P w mg base T.Lo 4 (S5 T):=by
 refine Ce T.Lo Bp λaf A aa s H vs Q E n h=>?_;obtain⟨F,r,st,Mu,e,f,g,c,rfl,L,ok,q⟩:=h;obtain⟨dx,le,lp,lq,lm,es,ps,qs,fs,R⟩:=id L;refine⟨_,(AD (Ab (PW.pt (Ds (Ba (A7 (HN n (pv 0) T.AM T.BS (BU T) (AA (pv 1) (AA (pv 4) AE))))) (Ds (Ba (A7 (HN n (pv 0) T.AM T.BH (BF T) (AA (pv 2) AE)))) (DC (Ba (A7 (HN n (pv 0) T.AM T.BH (BF T) (AA (pv 3) AE)))))))) (AF (AK (AZ (AA (gi T.CM) AE)))) AQ) (AD (B6 5 Bp.nd (HN n (pv 0) T.AM T.BB (A8 T) (AA (pv 1) (AA (pv 4) AE)))) (AD (B6 6 Bp.nd (Cv (AO (pv 0) rfl) (pv 2))) (AD (B6 7 Bp.nd (CI n (TC T) T.Uk (AA (pv 6) (AA (CI n (C7 T) T.DX (AA (pv 6) (AA (pv 5) AE))) AE)))) (AD (B6 8 Bp.nd (CI n (C7 T) T.DX (AA (Cv (AO (pv 0) rfl) (pv 3)) (AA (pv 7) AE)))) (AD (Y2 (i:=9) Bp.nd rfl (Or.inr rfl) (CI n (C7 T) T.DX (AA (Cv (AO (pv 0) rfl) (pv 3)) (AA (pv 5) AE)))) (AF (AK (Ap DF (CI n (Cs T) T.DQ (AA (pv 8) AE)) (CI n (Cs T) T.DQ (AA (Hw rfl Bp.nd (BE (pv 8)) (show D1 ["records","e","f","g","c","topics","between","carried","reached","straight","place"] (A4 G1) _ [("place",10)]from CB Dk) (λ_ _ _ _ _=>(Dz 10 Bp.nd)) (λ_ _ _ _ _=>(Hq (TR (show Kx _ _ (sg K true)from J3) (pv 10) (pv 9) rfl))) (λ_ _ _ _ _=>(pv 10))) AE))))))))))),?_⟩;dsimp only[A0,Cx.Ck];refine AU (!hasCls st e c||(!decide (f<st.editions.length)|| !decide (g<st.editions.length))) (λQ q=>⟨_,rfl,r,dx,_,rfl,R.BP,R.rf.n2,_,rfl,_,rfl,F,r,st,Mu,e,c,rfl,L,_,rfl,?_⟩) (λh=>?_) (λh=>?_)
 .refine N4 (R:=λb=>Q b H) (λh=>?_) (λh=>?_)
  .rw[h]at q;exact q
  .rw[h,yo]at q;refine⟨_,rfl,r,dx,_,rfl,R.BP,R.rf.n1,_,rfl,F,r,st,Mu,f,rfl,L,_,rfl,?_⟩;refine N4 (R:=λb=>Q b H) (λh=>?_) (λh=>?_)
   .rw[h]at q;exact q
   .rw[h,yo]at q;exact⟨_,rfl,r,dx,_,rfl,R.BP,R.rf.n1,_,rfl,F,r,st,Mu,g,rfl,L,_,rfl,q⟩
 .have ea:(Vbptal.act st (.through (e:Int) (f:Int) (g:Int) (c:Int))).2=[-7]:=by
   cases hc:hasCls st e c with
   |false=>exact x3 Prod.snd (MW hc)
   |true=>
    obtain⟨x,y,M,N⟩:=C6 hc;rw[hc]at h;rw[show Vbptal.act st (.through (e:Int) (f:Int) (g:Int) (c:Int))=_ from Eo M N];cases hf:decide (f<st.editions.length)with
    |false=>exact x3 Prod.snd (Mh hf)
    |true=>obtain⟨z,hz⟩:=HE hf;rw[Gq hz];rw[hf]at h;exact x3 Prod.snd (Mh (by simpa using h))
  rw[ea]at q;exact⟨AW Dc,q.lst (AN.refl _) rfl⟩
 .rw[yU,yU]at h;obtain⟨x,y,M,N⟩:=C6 (s:=st) (e:=e) (c:=c) (by simpa using h.1);obtain⟨z,hz⟩:=HE (l:=st.editions) (i:=f) (by simpa using h.2.1);obtain⟨u,hu⟩:=HE (l:=st.editions) (i:=g) (by simpa using h.2.2);rw[show Vbptal.act st (.through (e:Int) (f:Int) (g:Int) (c:Int))=_ from Eo M N,Gq hz,Gq hu]at q;obtain⟨a,ha,hE⟩:=R.ed hz;obtain⟨b,hb,hG⟩:=R.ed hu;have O:=ok.II z (xO hz);have I:=ok.II u (xO hu);have hm:=((ok.II x (xO M)).cls c y N).1;refine AS ⟨_,rfl,r,dx,_,rfl,R.BP,R.rf.n3,_,rfl,_,rfl,F,r,st,Mu,e,c,x,y,rfl,L,M,N,?_⟩;refine AS ⟨_,rfl,r,_,dx,_,_,rfl,R.BP,T.AM,T.AY,R.rf.Eu,_,rfl,le,_,_,_,rfl,rfl,Ah.of R.el,at_of (j:=f) rfl ha,?_⟩;refine AS ⟨_,rfl,_,rfl,_,rfl,a,z,_,y.mask,rfl,hE,O,λH1 p1 U n1 g1=>⟨a,p1,z,_,_,rfl,hE.mono U,O,g1,λi hi=>dU hi,?_⟩⟩;refine AS ⟨_,rfl,r,_,dx,_,_,rfl,U _ _ R.BP,T.AM,T.AY,R.rf.Eu,_,rfl,le,_,_,_,rfl,rfl,Ah.of (U _ _ R.el),at_of (j:=g) rfl hb,_,rfl,b,u,_,_,rfl,hG.mono U,I,λH2 p2 s2 n2 g2=>?_⟩;have B:AN H H2:=U.trans s2;refine AS ⟨_,rfl,r,_,dx,_,_,rfl,B _ _ R.BP,T.AM,T.AY,R.rf.Eu,_,rfl,le,_,_,_,rfl,rfl,Ah.of (B _ _ R.el),at_of (j:=g) rfl hb,_,rfl,b,u,_,_,rfl,hG.mono B,I,λH3 p3 s3 n3 g3=>?_⟩;have ab:AN H H3:=B.trans s3;have ae:=I.len;generalize hl:Vbptal.meeting u (Vbptal.maskOf ((Vbptal.meeting z y.mask).flatMap λi=>Vbptal.topics (Vbptal.own z i)))=l at g2;have ag:l.length<=16:=by rw[<-hl];exact xr (Hj _ _) ae
  have hq:Ro H (Vbptal.counted l++Vbptal.counted (l.filter λi=> !(Vbptal.meeting u y.mask).contains i)) Q:=by have e:Vbptal.through z u y.mask=l:=hl;rw[<-e];exact q
  clear q;have J:=g2.mono s3;refine⟨_,rfl,p2,_,rfl,J.z,by rw[A9];lia,λH4 p4 s4 n4 g4=>?_⟩;rw[<-DE]at g4;refine⟨_,rfl,p2,rfl,⟨_,(J.mono s4).sq⟩,λD hD=>FP (K:=K) (a:=p2) (xs:=Bs l) (λi H'=>AN H4 H'/\LI H' D ((l.take i).filter λi=> !(Vbptal.meeting u y.mask).contains i)) ⟨AI hD,AB⟩ (λi H' _ z=>(J.mono (s4.trans z.1)).sq) ?_ ?_⟩
  .rintro i v H' hv ⟨hs,hd⟩;obtain⟨k,hk,rfl⟩:=FN hv;refine⟨rfl,?_⟩;refine⟨_,rfl,_,rfl,p3,_,rfl,.inl ((g3.mono (s4.trans hs)).sq),rfl,Ur _,_,rfl,?_⟩;rw[YI];have Y:=RG (p:=λi=> !(Vbptal.meeting u y.mask).contains i) hk;refine Fi (λh=>⟨_,rfl,_,hd,?_,λb o e=>?_,?_⟩) (λh=>⟨hs,?_⟩)
   .rw[Am];have:=yI (λi=> !(Vbptal.meeting u y.mask).contains i) (l.take i);rw[xt]at this;exact Az Om
   .rw[AG (AH e hD)];exact hs b o e
   .unfold LI;rw[AB,Y,xQ (show(!(Vbptal.meeting u y.mask).contains k)=true from h),B4]
   .rw[Y,xJ (show¬(!(Vbptal.meeting u y.mask).contains k)=true from h),yJ];exact hd
  .rintro H5 ⟨s5,hd⟩;rw[Am,xm]at hd;have ah:=yI (λi=> !(Vbptal.meeting u y.mask).contains i) l;refine⟨D,_,rfl,hd.z,by rw[A9];lia,λH6 p6 s6 n6 g6=>?_⟩;rw[<-DE]at g6;refine⟨p4,p6,_,_,rfl,rfl,(g4.mono s5).mono s6,g6,?_,?_⟩
   .rw[xH,xH];unfold Vbptal.counted;rw[xg,xg,A9,A9];exact AW Om
   .refine hq.lst (ab.trans (s4.trans (s5.trans s6))) ?_;rw[xX]
inductive VP(T:Txt w K mg)(vs:List V)(H:Hp)(Q:VK)(z3_:XK):Prop
 |mk (F:List Addr) (r:Addr) (s:Vbptal.State) (Mu:List Addr) (e c f:Nat) (_:vs=[.ref r,vn e,vn c,vn f]) (_:Rep T F H r s Mu) (_:B8 s) (_:Ro H (Vbptal.act s (.holder (e:Int) (c:Int) (f:Int))).2 Q)
theorem jl(h:Vbptal.holder e m=some i):i<e.length:=by unfold Vbptal.holder at h;have:=zw h;exact yZ.mp (yH.mp this).1
theorem Ux(T:Txt w K mg):FB P w mg base T.Nw 4 (VP T):=by
 refine Ce T.Nw HG λaa A O s H vs Q E n h=>?_;obtain⟨F,r,st,Mu,e,c,f,rfl,B,ok,q⟩:=h;obtain⟨dx,le,lp,lq,lm,es,ps,qs,fs,R⟩:=id B;refine⟨_,(AD (Ab (PW.pt (Ds (Ba (A7 (HN n (pv 0) T.AM T.BS (BU T) (AA (pv 1) (AA (pv 2) AE))))) (DC (Ba (A7 (HN n (pv 0) T.AM T.BH (BF T) (AA (pv 3) AE))))))) (AF (AK (AZ (AA (gi T.CM) AE)))) AQ) (AD (B6 4 HG.nd (HN n (pv 0) T.AM T.BB (A8 T) (AA (pv 1) (AA (pv 2) AE)))) (AD (B6 5 HG.nd (CI n (M7 T) T.OP (AA (Cv (AO (pv 0) rfl) (pv 3)) (AA (pv 4) AE)))) (AD (Ab (CA A5 (pv 5) (gi T.DA)) (AF (AK (AZ (AA AL AE)))) AQ) (AD (Ab (CA A5 (HN n (pv 0) T.AM T.BB (A8 T) (AA (pv 3) (AA (pv 5) AE))) (pv 4)) (AF (AK (AZ (AA AL (AA (pv 5) (AA AL AE)))))) AQ) (AF (AK (AZ (AA AL (AA (pv 5) (AA AL AE))))))))))),?_⟩;dsimp only[A0,Cx.Ck];refine AU (!hasCls st e c|| !decide (f<st.editions.length)) (λQ q=>⟨_,rfl,r,dx,_,rfl,R.BP,R.rf.n2,_,rfl,_,rfl,F,r,st,Mu,e,c,rfl,B,_,rfl,?_⟩) (λh=>?_) (λh=>?_)
 .refine N4 (R:=λb=>Q b H) (λh=>?_) (λh=>?_)
  .rw[h]at q;exact q
  .rw[h,yo]at q;exact⟨_,rfl,r,dx,_,rfl,R.BP,R.rf.n1,_,rfl,F,r,st,Mu,f,rfl,B,_,rfl,q⟩
 .have ea:(Vbptal.act st (.holder (e:Int) (c:Int) (f:Int))).2=[-7]:=by
   cases U:hasCls st e c with
   |false=>exact x3 Prod.snd (MW U)
   |true=>obtain⟨x,y,I,J⟩:=C6 U;rw[U]at h;rw[show Vbptal.act st (.holder (e:Int) (c:Int) (f:Int))=_ from Eo I J];exact x3 Prod.snd (Mh (by simpa using h))
  rw[ea]at q;exact⟨AW Dc,q.lst (AN.refl _) rfl⟩
 .rw[yU]at h;obtain⟨x,y,I,J⟩:=C6 (s:=st) (e:=e) (c:=c) (by simpa using h.1);obtain⟨z,hz⟩:=HE (l:=st.editions) (i:=f) (by simpa using h.2);rw[show Vbptal.act st (.holder (e:Int) (c:Int) (f:Int))=_ from Eo I J,Gq hz]at q;obtain⟨a,ha,hE⟩:=R.ed hz;have Y:=ok.II z (xO hz);have hm:=((ok.II x (xO I)).cls c y J).1;refine AS ⟨_,rfl,r,dx,_,rfl,R.BP,R.rf.n3,_,rfl,_,rfl,F,r,st,Mu,e,c,x,y,rfl,B,I,J,?_⟩;refine AS ⟨_,rfl,r,_,dx,_,_,rfl,R.BP,T.AM,T.AY,R.rf.Eu,_,rfl,le,_,_,_,rfl,rfl,Ah.of R.el,at_of (j:=f) rfl ha,_,rfl,a,z,_,y.mask,rfl,hE,Y,hm,λH1 L=>?_⟩;have hP:∀o:Option Nat,decide (Kz o=V.int (-1))=o.isNone:=λo=>by
   have e7:=Mb o;rw[<-Bool.not_not (decide _),e7];cases o<;> rfl
  refine AU (Vbptal.holder z y.mask).isNone (λQ q=>⟨_,rfl,by cases Vbptal.holder z y.mask<;> rfl,_,rfl,by rw[hP];exact q⟩) (λh1=>?_) (λh1=>?_)
  .rw[AAg.mp h1]at q;exact⟨AW Dc,q.lst L rfl⟩
  .cases hh:Vbptal.holder z y.mask with
   |none=>rw[hh]at h1;cases h1
   |some i=>
    rw[hh]at q;have hi:=jl hh;have M:z[i]?=some z[i]:=xW hi;have N:=Dl M;refine AU (decide (z[i].mask=y.mask)) (λQ q=>?_) (λh2=>?_) (λh2=>?_)
    .refine⟨_,rfl,r,dx,_,rfl,L _ _ R.BP,R.rf.n3,_,rfl,_,rfl,F,r,st,Mu,f,i,z,z[i],rfl,B.mono L,hz,M,_,rfl,rfl,_,rfl,?_⟩;rw[kB];exact q
    .have q:Ro H [1,(i:Int),if Vbptal.maskAt z i=y.mask then 1 else 0] Q:=q;rw[N,xQ (xI h2)]at q;exact⟨_,rfl,AW (by show 3<=1000;decide),q.lst L rfl⟩
    .have q:Ro H [1,(i:Int),if Vbptal.maskAt z i=y.mask then 1 else 0] Q:=q;rw[N,xJ (xc h2)]at q;exact⟨_,rfl,AW (by show 3<=1000;decide),q.lst L rfl⟩
end
theorem Js{j n:Type}{F G:j->n->Prop}{l:List j}{m:List n}(h:Paired F l m)(f:∀a b,a∈l->F a b->G a b):Paired G l m:=by
 induction h with
 |nil=>exact .nil
 |cons r t q=>exact .cons (f _ _ (xl ..) r) (q λa b h=>f a b (xY _ h))
theorem JK(h:Paired (F6 C H (CE.Bl Mu H)) ps n)(q:∀b∈ps,H' b=H b)(B:AN (CE.Bl Mu H) (CE.Bl j H')):Paired (F6 C H' (CE.Bl j H')) ps n:=
 Js h λa _ I z=>z.mono (λo e=>by rw[q a I];exact e) B
theorem Md(h:some (a,t)∈qs):t∈EY qs:=AAh.mpr ⟨some (a,t),h,rfl⟩
theorem JN(h:Paired (Kh C H (CE.Bl Mu H)) qs ks)(n:∀b∈EY qs,H' b=H b)(B:AN (CE.Bl Mu H) (CE.Bl j H')):Paired (Kh C H' (CE.Bl j H')) qs ks:=
 Js h λq _ I z=>z.mono (λa t o e f=>by rw[n t (Md (by rw[<-e];exact I))];exact f) B
theorem JB(l:List Nat):Vbptal.nats (Vbptal.ints l)=l:=by
 unfold Vbptal.nats Vbptal.ints;rw[yg]
 conv=>rhs;rw[<-ACC l]
 apply yu;intro x _;exact yG x
theorem Aj{n:Int}{k:Nat}(h:Vbptal.inside n 0 (k:Int)=true):∃m:Nat,n=(m:Int)/\m<=k:=by unfold Vbptal.inside at h;simp only[x4,yN]at h;exact⟨n.toNat,Om,Om⟩
theorem O5{k:Nat}:∀{t:List Int},(t.all λc=>Vbptal.inside c 0 (k:Int))=true->∃u:List Nat,t=Vbptal.ints u/\∀x∈u,x<=k
 |[],_=>⟨[],rfl,by simp⟩
 |x::t,h=>by
  rw[yn,x4]at h;obtain⟨m,rfl,j⟩:=Aj h.1;obtain⟨u,rfl,n⟩:=O5 h.2;refine⟨m::u,rfl,λy q=>?_⟩;rcases xb.mp q with e|e
  .subst e;exact j
  .exact n y e
theorem Zh{m:Nat}{t:List Int}(h:Vbptal.isText m t=true):∃u:List Nat,t=Vbptal.ints u/\u.length<=m/\∀x∈u,x<=255:=by unfold Vbptal.isText at h;rw[x4]at h;obtain⟨u,rfl,j⟩:=O5 (k:=255) h.2;exact⟨u,rfl,by have:=xI h.1;rwa[A9]at this,j⟩
inductive LC(H:Hp)(a:Addr)(ps:List (List Int)):Prop
 |mk (as:List Addr) (_:H a=some (.lst (as.map V.ref))) (_:Paired (LZ H) as ps)
theorem LC.mono(h:LC H a ps)(s:AN H H'):LC H' a ps:=by obtain⟨as,h1,h2⟩:=h;exact⟨as,s _ _ h1,Paired.BO (λ_ _ q=>LZ.mono q s) h2⟩
inductive t7(H:Hp)(a:Addr)(i:Nat)(l:List Int):Prop
 |mk (as:List Addr) (b:Addr) (_:H a=some (.lst (as.map V.ref))) (_:(as.map V.ref)[i]?=some (.ref b)) (_:LZ H b l)
theorem LC.get{H:Hp}{a:Addr}{ps:List (List Int)}(h:LC H a ps){i:Nat}{l:List Int}(hi:ps[i]?=some l):t7 H a i l:=by obtain⟨as,h1,h2⟩:=h;obtain⟨b,j,n⟩:=Bu i l h2 hi;exact⟨as,b,h1,by rw[xh,j];rfl,n⟩
section
variable{P:Program}{w:World}{K:PySem.W.Frag}{mg:Str->Option Value}{base:Heap}
section
variable{T:Txt w K mg}{F:List Addr}{H:Hp}{r:Addr}{s:Vbptal.State}{Mu:List Addr}{dx le lp lq lm:Addr}{es ps:List Addr}{qs:List (Option (Addr×Addr))}{fs:List (Str×V)}
theorem BX.iI(R:BX T F H r s Mu dx le lp lq lm es ps qs fs)(h:b∈lp::lq::(ps++(EY qs++F))):b∈Mu/\b≠le:=by have j:=R.nd;rw[R.mu]at j⊢;exact⟨xY _ h,λe=>(yA.mp j).1 (by rw[<-e];exact h)⟩
theorem BX.o9(R:BX T F H r s Mu dx le lp lq lm es ps qs fs)(n:AN (CE.Bl Mu H) (CE.Bl Mu H'))(q:∀b∈Mu,b≠le->H' b=H b)(B:H' le=some (.lst (es.map V.ref++[.ref a])))
  (I:Jo T.A1 T.AX (CE.Bl Mu H') a e (Vbptal.shownEdition e)):BX T F H' r {s with editions:=s.editions++[e]} Mu dx le lp lq lm (es++[a]) ps qs fs:=by
 have k:∀b,b∈lp::lq::(ps++(EY qs++F))->H' b=H b:=λb j=>q b (R.iI j).1 (R.iI j).2;refine⟨R.mu,R.nd,λb j=>?_,n _ _ R.X0,R.rf,?_,?_,?_,JK R.Sn (λb j=>k b (by simp[j])) n,?_,JN R.WJ (λb j=>k b (by simp[j])) n,R.ms.mono n⟩
 .rw[k b (by simp[j])];exact R.fr b j
 .rw[B,xX];rfl
 .exact BR (Paired.BO (λ_ _ z=>z.mono n) R.Eu) I
 .rw[k lp (by simp)];exact R.pl
 .rw[k lq (by simp)];exact R.ql
end
theorem mT(h:4<=s.editions.length):Vbptal.act s (.edition t)=(s,[-3]):=xQ h
theorem nX(h:¬4<=s.editions.length)(h2:Vbptal.editionOf t=none):Vbptal.act s (.edition (Vbptal.ints t))=(s,[-6]):=by show(if Vbptal.EDITIONS<=s.editions.length then _ else match Vbptal.editionOf (Vbptal.nats (Vbptal.ints t))with|none=>_|some e=>_)=_;rw[xJ (show¬Vbptal.EDITIONS<=s.editions.length from h),JB,h2]
theorem sW(h:¬4<=s.editions.length)(h2:Vbptal.editionOf t=some e):Vbptal.act s (.edition (Vbptal.ints t))=({s with editions:=s.editions++[e]},[(s.editions.length:Int),(e.length:Int)]):=by show(if Vbptal.EDITIONS<=s.editions.length then _ else match Vbptal.editionOf (Vbptal.nats (Vbptal.ints t))with|none=>_|some e=>_)=_;rw[xJ (show¬Vbptal.EDITIONS<=s.editions.length from h),JB,h2]
inductive VD(T:Txt w K mg)(vs:List V)(H:Hp)(Q:VK)(z3_:XK):Prop
 |mk (F:List Addr) (r:Addr) (s:Vbptal.State) (Mu:List Addr) (lt:Addr) (t:List Nat) (_:vs=[.ref r,.ref lt]) (_:Rep T F H r s Mu) (_:B8 s) (_:LI (CE.Bl Mu H) lt t) (_:t.length<=1000) (_:Wr T F H r Mu (Vbptal.act s (.edition (Vbptal.ints t))).1 (Vbptal.act s (.edition (Vbptal.ints t))).2 Q)
theorem T1(T:Txt w K mg):FB P w mg base T.Nn 5 (VD T):=by
 refine Ce T.Nn Lp λaq A ai s H vs Q E hr h=>?_;obtain⟨F,r,st,Mu,lt,t,rfl,hR,ok,n,O,q⟩:=h;obtain⟨dx,le,lp,lq,lm,es,ps,qs,fs,R⟩:=id hR;have ar:lt∉Mu:=λz=>by unfold LI at n;rw[Fv z]at n;cases n
 have ap:=ok.Eu;refine⟨_,(AD (Ab (CA A5 (IM T.Be (AO (pv 0) rfl)) (gi T.Ss)) (AF (AK (AZ (AA (gi T.dO) AE)))) AQ) (AD (B6 2 Lp.nd (CI hr (S3 T) T.T2 (AA (pv 1) AE))) (AD (Ab (CA Ra (pv 2) B9) (AF (AK (AZ (AA (gi T.K5) AE)))) AQ) (AD (A3 (Cn xa xw xx BD (AO (pv 0) rfl) (AA (nA (Se T) λa b=>TZ T.dX a (hr.mono Dc) rfl T.jn b .nil LK (AA (pv 1) (AA (pv 2) AE))) AE))) (AF (AK (AZ (AA (Ap IH (IM T.Be (AO (pv 0) rfl)) AL) (AA (IM T.Be (pv 2)) AE))))))))),?_⟩;dsimp only[A0,Cx.Ck];refine AU (decide (st.editions.length=4)) (λQ q=>⟨_,rfl,r,_,dx,_,_,rfl,R.BP,T.AM,T.AY,R.rf.Eu,le,_,rfl,.inl (Ah.of R.el),rfl,_,rfl,?_⟩) (λh=>?_) (λh=>?_)
 .rw[R.dg];show Q (decide (V.int ((st.editions.length:Nat):Int)=V.int ((4:Nat):Int))) H;rw[kB];exact q
 .rw[mT (by rw[xI h];decide)]at q;exact⟨AW Dc,(q.ro hR).lst (AN.refl _) rfl⟩
 .have h4:¬4<=st.editions.length:=by have:=xc h;lia
  refine AS ⟨_,rfl,lt,t,rfl,n.mono (Af _ _),O,λhn H1 N=>?_,λe he H1 J N n1 hC=>?_⟩
  .rw[nX h4 hn]at q;refine AU true (λQ q=>⟨_,rfl,rfl,_,rfl,q⟩) (λ_=>?_) (λh=>by cases h);exact⟨AW Dc,(q.ro hR).lst N rfl⟩
  .rw[sW h4 he]at q;obtain⟨au,aj⟩:=MP he;refine AU false (λQ q=>⟨_,rfl,rfl,_,rfl,q⟩) (λh=>by cases h) (λ_=>?_);refine D3 ⟨_,rfl,r,_,dx,_,_,rfl,N _ _ R.BP,T.AM,T.AY,R.rf.Eu,.inl ⟨rfl,_,Ah.of (N _ _ R.el)⟩,_,rfl,_,rfl,λx I nx nd av=>⟨x,I,_,_,rfl,AB,rfl,?_⟩⟩;rw[CD];have sx:AN H1 (upd (upd H1 I (.own x)) x (.ins T.A1 I (Ad "classes" (.ref J) (Ad "text" (.ref lt) [])))):=RW nx nd;have hx:upd (upd H1 I (.own x)) x (.ins T.A1 I (Ad "classes" (.ref J) (Ad "text" (.ref lt) []))) x=some (.ins T.A1 I (px lt J)):=AB;generalize upd (upd H1 I (.own x)) x (.ins T.A1 I (Ad "classes" (.ref J) (Ad "text" (.ref lt) [])))=H2 at sx hx⊢;have B:AN H H2:=N.trans sx;refine⟨le,es.map V.ref,.ref x,rfl,rfl,B _ _ R.el,?_,?_⟩
   .rw[R.dg];exact Az Om
   obtain⟨as,ak,am⟩:=id hC;have U:H2 J=some (.lst (as.map V.ref)):=sx _ _ (Aw _ _ _ _ ak);have Y:J≠le:=λz=>by rw[z,R.el]at n1;cases n1
   have aa:r≠le:=Dv R.BP R.el (by intro z;cases z);refine⟨_,rfl,r,_,dx,_,_,rfl,?_,T.AM,T.AY,R.rf.Eu,le,_,rfl,.inl (Ah.of AB),_,_,rfl,rfl,_,rfl,J,as.map V.ref,rfl,.inl (Ah.of ?_),AW (by show 2<=1000;decide),λp np=>?_⟩
   .rw[AG aa];exact B _ _ R.BP
   .rw[AG Y];exact U
   have ab:le∈Mu:=by rw[R.mu];simp
   have an:∀b∈Mu,(upd H2 le (.lst (es.map V.ref++[.ref x]))) b≠none:=λb j z=>by
    by_cases e:b=le
    .rw[e,AB]at z;cases z
    .rw[AG e]at z;exact R.there b j (B.free z)
   have L:p∉Mu:=λz=>an p z np;have k2:∀b o,b∉Mu->H2 b=some o->(upd (upd H2 le (.lst (es.map V.ref++[.ref x]))) p (.lst [V.int (((es.map V.ref++[V.ref x]).length:Nat) - 1),V.int ((as.map V.ref).length:Nat)])) b=some o:=λb o j z=>by
    have ae:b≠le:=λe=>j (by rw[e];exact ab);have M:b≠p:=λe=>by rw[<-e,AG ae,z]at np;cases np
    rw[AG M,AG ae];exact z
   have k3:∀b∈Mu,b≠le->(upd (upd H2 le (.lst (es.map V.ref++[.ref x]))) p (.lst [V.int (((es.map V.ref++[V.ref x]).length:Nat) - 1),V.int ((as.map V.ref).length:Nat)])) b=H b:=λb j e=>by
    have M:b≠p:=λe=>L (by rw[<-e];exact j);rw[AG M,AG e];cases z:H b with
    |none=>exact absurd z (R.there b j)
    |some o=>exact B _ _ z
   have ao:le≠p:=λe=>L (by rw[<-e];exact ab);have af:(upd (upd H2 le (.lst (es.map V.ref++[.ref x]))) p (.lst [V.int (((es.map V.ref++[V.ref x]).length:Nat) - 1),V.int ((as.map V.ref).length:Nat)])) le=some (.lst (es.map V.ref++[.ref x])):=by rw[AG ao,AB]
   have ag:(upd (upd H2 le (.lst (es.map V.ref++[.ref x]))) p (.lst [V.int (((es.map V.ref++[V.ref x]).length:Nat) - 1),V.int ((as.map V.ref).length:Nat)])) p=some (.lst [V.int (((es.map V.ref++[V.ref x]).length:Nat) - 1),V.int ((as.map V.ref).length:Nat)]):=AB;show Q (.ref p) (upd (upd H2 le (.lst (es.map V.ref++[.ref x]))) p (.lst [V.int (((es.map V.ref++[V.ref x]).length:Nat) - 1),V.int ((as.map V.ref).length:Nat)]));generalize upd (upd H2 le (.lst (es.map V.ref++[.ref x]))) p (.lst [V.int (((es.map V.ref++[V.ref x]).length:Nat) - 1),V.int ((as.map V.ref).length:Nat)])=H4 at k2 k3 af ag⊢;have sm:AN (CE.Bl Mu H) (CE.Bl Mu H4):=JV λb o j z=>⟨j,k2 b o j (B _ _ z)⟩;have ah:x∉Mu:=λz=>R.there x z (N.free nx);refine q H4 p Mu sm (λb j=>k3 b (R.iI (by simp[j])).1 (R.iI (by simp[j])).2) ⟨dx,le,lp,lq,lm,_,ps,qs,fs,R.o9 sm k3 af ⟨I,lt,J,?_,?_,?_⟩⟩ ?_
   .rw[As ah];exact k2 _ _ ah hx
   .rw[aj];exact n.mono sm
   .refine hC.mono ((Wx (λb j=>R.there b j)).trans (JV λb o j z=>⟨j,k2 b o j (sx _ _ z)⟩))
   .unfold LZ;rw[As L,ag];have e1:(((es.map V.ref++[V.ref x]).length:Nat):Int) - 1=(st.editions.length:Int):=by
     rw[xS,R.dg];simp
    have e2:(as.map V.ref).length=e.length:=by rw[xH];exact AR am
    rw[e1,e2];rfl
end
theorem ud(h:tag d=0):∃t,d=.edition t:=by cases d<;> first|exact⟨_,rfl⟩|exact absurd h (xI rfl)
theorem uC(h:tag d=1):∃e,d=.text e:=by cases d<;> first|exact⟨_,rfl⟩|exact absurd h (xI rfl)
theorem tH(h:tag d=2):∃e c,d=.class_ e c:=by cases d<;> first|exact⟨_,_,rfl⟩|exact absurd h (xI rfl)
theorem tq(h:tag d=3):∃e c f,d=.concord e c f:=by cases d<;> first|exact⟨_,_,_,rfl⟩|exact absurd h (xI rfl)
theorem tV(h:tag d=4):∃e f g c,d=.through e f g c:=by cases d<;> first|exact⟨_,_,_,_,rfl⟩|exact absurd h (xI rfl)
theorem tw(h:tag d=5):∃e c f,d=.holder e c f:=by cases d<;> first|exact⟨_,_,_,rfl⟩|exact absurd h (xI rfl)
theorem uP(h:tag d=6):∃j w m,d=.paper j w m:=by cases d<;> first|exact⟨_,_,_,rfl⟩|exact absurd h (xI rfl)
theorem uE(h:tag d=7):∃p e c,d=.mark p e c:=by cases d<;> first|exact⟨_,_,_,rfl⟩|exact absurd h (xI rfl)
theorem uO(h:tag d=8):∃p i e c,d=.remark p i e c:=by cases d<;> first|exact⟨_,_,_,_,rfl⟩|exact absurd h (xI rfl)
theorem ua(h:tag d=9):∃p i,d=.unmark p i:=by cases d<;> first|exact⟨_,_,rfl⟩|exact absurd h (xI rfl)
theorem rE(h:tag d=10):∃p,d=.told p:=by cases d<;> first|exact⟨_,rfl⟩|exact absurd h (xI rfl)
theorem qe(h:tag d=11):∃k e t,d=.ask k e t:=by cases d<;> first|exact⟨_,_,_,rfl⟩|exact absurd h (xI rfl)
theorem rC(h:tag d=12):∃k,d=.asks k:=by cases d<;> first|exact⟨_,rfl⟩|exact absurd h (xI rfl)
theorem qj(h:tag d=13):∃k,d=.find k:=by cases d<;> first|exact⟨_,rfl⟩|exact absurd h (xI rfl)
theorem rZ(h:tag d=14):∃k p,d=.likely k p:=by cases d<;> first|exact⟨_,_,rfl⟩|exact absurd h (xI rfl)
theorem qW(h:tag d=15):∃k,d=.ranked k:=by cases d<;> first|exact⟨_,rfl⟩|exact absurd h (xI rfl)
theorem rT(h:tag d=16):∃j k,d=.same j k:=by cases d<;> first|exact⟨_,_,rfl⟩|exact absurd h (xI rfl)
theorem qJ(h:tag d=17):∃k,d=.news k:=by cases d<;> first|exact⟨_,rfl⟩|exact absurd h (xI rfl)
theorem L5(h:∀x,(f x).1=s):(Vbptal.onEdition s e f).1=s:=by
 unfold Vbptal.onEdition;split
 .rfl
 .exact h _
theorem QG(h:∀x y,(f x y).1=s):(Vbptal.onClass s e c f).1=s:=by
 unfold Vbptal.onClass;split
 .rfl
 .split
  .rfl
  .exact h _ _
theorem Ww(h:∀x,(f x).1=s):(Vbptal.onPaper s e f).1=s:=by
 unfold Vbptal.onPaper;split
 .rfl
 .exact h _
theorem Gf(h:∀x,(f x).1=s):(Vbptal.onAsked s e f).1=s:=by
 unfold Vbptal.onAsked;split
 .rfl
 .exact h _
theorem IE{Q:Bool->Hp->Prop}{a b:Nat}{H:Hp}(q:Q (decide (a=b)) H):Q (decide (V.int (a:Int)=V.int (b:Int))) H:=by rw[kB];exact q
section
variable{P:Program}{w:World}{K:PySem.W.Frag}{mg:Str->Option Value}{base:Heap}
theorem Wr.rd{T:Txt w K mg}{F:List Addr}{H:Hp}{r:Addr}{Mu:List Addr}{s s':Vbptal.State}{j:List Int}{Q:VK}(h:Wr T F H r Mu s' j Q)(R:Rep T F H r s Mu)(e:s'=s):Ro H j Q:=by subst e;exact h.ro R
theorem uI{d:Vbptal.Call}(h:tag d=1)(j:Vbptal.inRange d=true):∃e:Nat,d=.text e:=by obtain⟨e,rfl⟩:=uC h;obtain⟨e,rfl,_⟩:=Aj (k:=3) j;exact⟨e,rfl⟩
theorem tO{d:Vbptal.Call}(h:tag d=2)(j:Vbptal.inRange d=true):∃e c:Nat,d=.class_ e c:=by obtain⟨e,c,rfl⟩:=tH h;obtain⟨n,q⟩:=xT.mp j;obtain⟨e,rfl,_⟩:=Aj (k:=3) n;obtain⟨c,rfl,_⟩:=Aj (k:=15) q;exact⟨e,c,rfl⟩
theorem uZ{d:Vbptal.Call}(h:tag d=3)(j:Vbptal.inRange d=true):∃e c f:Nat,d=.concord e c f:=by obtain⟨e,c,f,rfl⟩:=tq h;obtain⟨n,q⟩:=xT.mp j;obtain⟨h1,g1⟩:=xT.mp q;obtain⟨e,rfl,_⟩:=Aj (k:=3) n;obtain⟨c,rfl,_⟩:=Aj (k:=15) h1;obtain⟨f,rfl,_⟩:=Aj (k:=3) g1;exact⟨e,c,f,rfl⟩
theorem uh{d:Vbptal.Call}(h:tag d=4)(j:Vbptal.inRange d=true):∃e f g c:Nat,d=.through e f g c:=by obtain⟨e,f,g,c,rfl⟩:=tV h;obtain⟨n,q⟩:=xT.mp j;obtain⟨h1,g1⟩:=xT.mp q;obtain⟨h2,g2⟩:=xT.mp g1;obtain⟨e,rfl,_⟩:=Aj (k:=3) n;obtain⟨f,rfl,_⟩:=Aj (k:=3) h1;obtain⟨g,rfl,_⟩:=Aj (k:=3) h2;obtain⟨c,rfl,_⟩:=Aj (k:=15) g2;exact⟨e,f,g,c,rfl⟩
theorem tj{d:Vbptal.Call}(h:tag d=5)(j:Vbptal.inRange d=true):∃e c f:Nat,d=.holder e c f:=by obtain⟨e,c,f,rfl⟩:=tw h;obtain⟨n,q⟩:=xT.mp j;obtain⟨h1,g1⟩:=xT.mp q;obtain⟨e,rfl,_⟩:=Aj (k:=3) n;obtain⟨c,rfl,_⟩:=Aj (k:=15) h1;obtain⟨f,rfl,_⟩:=Aj (k:=3) g1;exact⟨e,c,f,rfl⟩
theorem tJ{d:Vbptal.Call}(h:tag d=7)(j:Vbptal.inRange d=true):∃p e c:Nat,d=.mark p e c:=by obtain⟨p,e,c,rfl⟩:=uE h;obtain⟨n,q⟩:=xT.mp j;obtain⟨h1,g1⟩:=xT.mp q;obtain⟨p,rfl,_⟩:=Aj (k:=11) n;obtain⟨e,rfl,_⟩:=Aj (k:=3) h1;obtain⟨c,rfl,_⟩:=Aj (k:=15) g1;exact⟨p,e,c,rfl⟩
theorem tG{d:Vbptal.Call}(h:tag d=8)(j:Vbptal.inRange d=true):∃p i e c:Nat,d=.remark p i e c:=by obtain⟨p,i,e,c,rfl⟩:=uO h;obtain⟨n,q⟩:=xT.mp j;obtain⟨h1,g1⟩:=xT.mp q;obtain⟨h2,g2⟩:=xT.mp g1;obtain⟨p,rfl,_⟩:=Aj (k:=11) n;obtain⟨i,rfl,_⟩:=Aj (k:=2) h1;obtain⟨e,rfl,_⟩:=Aj (k:=3) h2;obtain⟨c,rfl,_⟩:=Aj (k:=15) g2;exact⟨p,i,e,c,rfl⟩
theorem tf{d:Vbptal.Call}(h:tag d=9)(j:Vbptal.inRange d=true):∃p i:Nat,d=.unmark p i:=by obtain⟨p,i,rfl⟩:=ua h;obtain⟨n,q⟩:=xT.mp j;obtain⟨p,rfl,_⟩:=Aj (k:=11) n;obtain⟨i,rfl,_⟩:=Aj (k:=2) q;exact⟨p,i,rfl⟩
theorem qi{d:Vbptal.Call}(h:tag d=10)(j:Vbptal.inRange d=true):∃p:Nat,d=.told p:=by obtain⟨p,rfl⟩:=rE h;obtain⟨p,rfl,_⟩:=Aj (k:=11) j;exact⟨p,rfl⟩
inductive Jl(T:Txt w K mg)(vs:List V)(H:Hp)(Q:VK)(z3_:XK):Prop
 |mk (F:List Addr) (r:Addr) (s:Vbptal.State) (Mu:List Addr) (d:Vbptal.Call) (ln lr:Addr) (_:vs=[.ref r,vn (tag d),.ref ln,.ref lr]) (_:Rep T F H r s Mu) (_:B8 s) (_:Vbptal.inRange d=true) (_:LZ (CE.Bl Mu H) ln (nums d)) (_:LC (CE.Bl Mu H) lr (Bi d)) (_:tag d<=5) (_:Wr T F H r Mu (Vbptal.act s d).1 (Vbptal.act s d).2 Q)
theorem Jy(T:Txt w K mg):FB P w mg base T.E2 6 (Jl T):=by
 refine Ce T.E2 J9 λM A L s H vs Q E J h=>?_;obtain⟨F,r,st,Mu,d,z,N,rfl,I,ok,B,O,U,ht,q⟩:=h;refine⟨_,(AD (Ab (CA A5 (pv 1) AL) (AF (AK (CI J (T1 T) T.V6 (AA (pv 0) (AA (Cv (pv 3) AL) AE))))) AQ) (AD (Ab (CA A5 (pv 1) AL) (AF (AK (CI J (ZR T) T.bH (AA (pv 0) (AA (Cv (pv 2) AL) AE))))) AQ) (AD (Ab (CA A5 (pv 1) AL) (AF (AK (CI J (Ve T) T.Yr (AA (pv 0) (AA (Cv (pv 2) AL) (AA (Cv (pv 2) AL) AE)))))) AQ) (AD (Ab (CA A5 (pv 1) AL) (AF (AK (CI J (Su T) T.Ui (AA (pv 0) (AA (Cv (pv 2) AL) (AA (Cv (pv 2) AL) (AA (Cv (pv 2) AL) AE))))))) AQ) (AD (Ab (CA A5 (pv 1) AL) (AF (AK (CI J (TH T) T.VI (AA (pv 0) (AA (Cv (pv 2) AL) (AA (Cv (pv 2) AL) (AA (Cv (pv 2) AL) (AA (Cv (pv 2) AL) AE)))))))) AQ) (AF (AK (CI J (Ux T) T.Wq (AA (pv 0) (AA (Cv (pv 2) AL) (AA (Cv (pv 2) AL) (AA (Cv (pv 2) AL) AE)))))))))))),?_⟩;dsimp only[A0,Cx.Ck];have n:LZ H z (nums d):=O.mono (Af _ _);refine AU (decide (tag d=0)) (λQ q=>⟨_,rfl,rfl,_,rfl,IE (b:=0) q⟩) (λh=>?_) (λY=>?_)
 .obtain⟨t,rfl⟩:=ud (xI h);obtain⟨u,rfl,hu,_⟩:=Zh (m:=400) B;obtain⟨as,b,g1,g2,g3⟩:=U.get (i:=0) (l:=Vbptal.ints u) rfl;exact⟨_,rfl,_,rfl,N,_,_,_,rfl,rfl,Ah.of (Af _ _ _ _ g1),at_of (j:=0) rfl g2,F,r,st,Mu,b,u,rfl,I,ok,g3.n,Om,q⟩
 refine AU (decide (tag d=1)) (λQ q=>⟨_,rfl,rfl,_,rfl,IE (b:=1) q⟩) (λh=>?_) (λh1=>?_)
 .obtain⟨e,rfl⟩:=uI (xI h) B;exact⟨_,rfl,_,rfl,z,_,_,_,rfl,rfl,Ah.of n,at_of (j:=0) rfl rfl,F,r,st,Mu,e,rfl,I,q.rd I (L5 λ_=>rfl)⟩
 refine AU (decide (tag d=2)) (λQ q=>⟨_,rfl,rfl,_,rfl,IE (b:=2) q⟩) (λh=>?_) (λh2=>?_)
 .obtain⟨e,c,rfl⟩:=tO (xI h) B;exact⟨_,rfl,_,rfl,z,_,_,_,rfl,rfl,Ah.of n,at_of (j:=0) rfl rfl,_,rfl,z,_,_,_,rfl,rfl,Ah.of n,at_of (j:=1) rfl rfl,F,r,st,Mu,e,c,rfl,I,ok,q.rd I (QG λ_ _=>rfl)⟩
 refine AU (decide (tag d=3)) (λQ q=>⟨_,rfl,rfl,_,rfl,IE (b:=3) q⟩) (λh=>?_) (λh3=>?_)
 .obtain⟨e,c,f,rfl⟩:=uZ (xI h) B;exact⟨_,rfl,_,rfl,z,_,_,_,rfl,rfl,Ah.of n,at_of (j:=0) rfl rfl,_,rfl,z,_,_,_,rfl,rfl,Ah.of n,at_of (j:=1) rfl rfl,_,rfl,z,_,_,_,rfl,rfl,Ah.of n,at_of (j:=2) rfl rfl,F,r,st,Mu,e,c,f,rfl,I,ok,q.rd I (QG λ_ _=>L5 λ_=>rfl)⟩
 refine AU (decide (tag d=4)) (λQ q=>⟨_,rfl,rfl,_,rfl,IE (b:=4) q⟩) (λh=>?_) (λh4=>?_)
 .obtain⟨e,f,g,c,rfl⟩:=uh (xI h) B;exact⟨_,rfl,_,rfl,z,_,_,_,rfl,rfl,Ah.of n,at_of (j:=0) rfl rfl,_,rfl,z,_,_,_,rfl,rfl,Ah.of n,at_of (j:=1) rfl rfl,_,rfl,z,_,_,_,rfl,rfl,Ah.of n,at_of (j:=2) rfl rfl,_,rfl,z,_,_,_,rfl,rfl,Ah.of n,at_of (j:=3) rfl rfl,F,r,st,Mu,e,f,g,c,rfl,I,ok,q.rd I (QG λ_ _=>L5 λ_=>L5 λ_=>rfl)⟩
 have h5:tag d=5:=by have:=xc Y;have:=xc h1;have:=xc h2;have:=xc h3;have:=xc h4;lia
 obtain⟨e,c,f,rfl⟩:=tj h5 B;exact⟨_,rfl,_,rfl,z,_,_,_,rfl,rfl,Ah.of n,at_of (j:=0) rfl rfl,_,rfl,z,_,_,_,rfl,rfl,Ah.of n,at_of (j:=1) rfl rfl,_,rfl,z,_,_,_,rfl,rfl,Ah.of n,at_of (j:=2) rfl rfl,F,r,st,Mu,e,c,f,rfl,I,ok,q.rd I (QG λ_ _=>L5 λ_=>rfl)⟩
end
theorem Vb:∀{l:List Nat}{k n:Nat},l.Pairwise (· < ·)->(∀x∈l,k<=x/\x<n)->l.length<=n - k
 |[],_,_,_,_=>by simp
 |x::l,k,n,j,h=>by rw[yS]at j;have:=Vb (k:=x+1) (n:=n) j.2 λy q=>⟨j.1 y q,(h y (xY _ q)).2⟩;have z:=h x (xl ..);rw[xg];lia
theorem fQ{B I:Type}{F G:B->I->Prop}{a:B}{y:I}{l:List B}{m:List I}{i:Nat}(p:Paired F l m)(j:l.Nodup)(h:l[i]?=some a)(f:∀x z,x∈l->x≠a->F x z->G x z)(g:G a y):Paired G l (m.set i y):=by
 induction p generalizing i with
 |nil=>cases h
 |cons r t J=>
  rw[yA]at j;cases i with
  |zero=>cases h;exact .cons g (Js t λu v n q=>f u v (xY _ n) (λe=>j.1 (by rw[<-e];exact n)) q)
  |succ i=>exact .cons (f _ _ (xl ..) (λe=>j.1 (by rw[e];exact xO h)) r) (J j.2 h (λu v n=>f u v (xY _ n)))
theorem A6(l:List Nat):(Vbptal.counted l).length=l.length+1:=by unfold Vbptal.counted;rw[xg,A9]
theorem MO{s:Vbptal.State}{p:Nat}{f:Vbptal.Paper->Vbptal.State×Vbptal.Answer}(h:decide (p<s.papers.length)=false):Vbptal.onPaper s (p:Int) f=(s,[-5]):=by unfold Vbptal.onPaper Vbptal.paperAt;rw[yG,yc (by have:=xc h;lia)]
theorem IY{s:Vbptal.State}{p:Nat}{x:Vbptal.Paper}{f:Vbptal.Paper->Vbptal.State×Vbptal.Answer}(h:s.papers[p]?=some x):Vbptal.onPaper s (p:Int) f=f x:=by unfold Vbptal.onPaper Vbptal.paperAt;rw[yG,h]
section
variable{P:Program}{w:World}{K:PySem.W.Frag}{mg:Str->Option Value}{base:Heap}
theorem Wr.fin{T:Txt w K mg}{F:List Addr}{H H2:Hp}{r:Addr}{Mu j:List Addr}{s':Vbptal.State}{n:List Int}{Q:VK}(h:Wr T F H r Mu s' n Q)(I:AN (CE.Bl Mu H) (CE.Bl j H2))(J:∀b∈F,H2 b=H b)(R:Rep T F H2 r s' j):Ro H2 n Q:=λL p q np hz=>by
 have M:p∉j:=R.out np;refine h L p j (I.trans (AN.Bl q)) (λb B=>?_) (R.mono q) ?_
 .obtain⟨dx,le,lp,lq,lm,es,ps,qs,fs,R⟩:=R;cases z:H2 b with
  |none=>exact absurd z (R.fr b B)
  |some o=>rw[q _ _ z,<-J b B,z]
 .unfold LZ;rw[As M];exact hz
inductive wY(T:Txt w K mg)(H:Hp)(Mu ps:List Addr)(i:Nat)(x:Vbptal.Paper):Prop
 |mk (a:Addr) (_:ps[i]?=some a) (_:(ps.map V.ref)[i]?=some (.ref a)) (_:F6 T.Bx H (CE.Bl Mu H) a x)
section
variable{T:Txt w K mg}{F:List Addr}{H:Hp}{r:Addr}{s:Vbptal.State}{Mu:List Addr}{dx le lp lq lm:Addr}{es ps:List Addr}{qs:List (Option (Addr×Addr))}{fs:List (Str×V)}
theorem BX.pap(R:BX T F H r s Mu dx le lp lq lm es ps qs fs){i:Nat}{x:Vbptal.Paper}(n:s.papers[i]?=some x):wY T H Mu ps i x:=by obtain⟨a,j,q⟩:=Bu i _ R.Sn n;exact⟨a,j,by rw[xh,j];rfl,q⟩
theorem BX.xE(R:BX T F H r s Mu dx le lp lq lm es ps qs fs):ps.Nodup:=by have j:=R.nd;rw[R.mu,yA,yA,yA,yX]at j;exact j.2.2.2.1
theorem BX.ZD(R:BX T F H r s Mu dx le lp lq lm es ps qs fs)(n:a∈ps)(h:b∈le::lp::lq::(EY qs++F)):b∈Mu/\b≠a:=by
 have j:=R.nd;rw[R.mu]at j⊢;simp only[yA,yX,xb,xq,AAi]at j h⊢;rcases h with e|e|e|e|e
 .exact⟨.inl e,λz=>j.1.2.2.1 (by rw[<-e,z];exact n)⟩
 .exact⟨.inr (.inl e),λz=>j.2.1.2.1 (by rw[<-e,z];exact n)⟩
 .exact⟨.inr (.inr (.inl e)),λz=>j.2.2.1.1 (by rw[<-e,z];exact n)⟩
 .exact⟨.inr (.inr (.inr (.inr (.inl e)))),λz=>j.2.2.2.2.2 a n b (.inl e) z.symm⟩
 .exact⟨.inr (.inr (.inr (.inr (.inr e)))),λz=>j.2.2.2.2.2 a n b (.inr e) z.symm⟩
theorem BX.o7(R:BX T F H r s Mu dx le lp lq lm es ps qs fs){i:Nat}{a:Addr}{x:Vbptal.Paper}(hi:ps[i]?=some a){H':Hp}(n:AN (CE.Bl Mu H) (CE.Bl Mu H'))(I:∀b∈Mu,b≠a->H' b=H b)(L:F6 T.Bx H' (CE.Bl Mu H') a x):
  BX T F H' r (Vbptal.withPaper s (i:Int) x) Mu dx le lp lq lm es ps qs fs:=by
 have J:a∈ps:=xO hi;have k:∀b,b∈le::lp::lq::(EY qs++F)->H' b=H b:=λb j=>I b (R.ZD J j).1 (R.ZD J j).2;refine⟨R.mu,R.nd,λb j=>?_,n _ _ R.X0,R.rf,?_,Paired.BO (λ_ _ z=>z.mono n) R.Eu,?_,?_,?_,JN R.WJ (λb j=>k b (by simp[j])) n,R.ms.mono n⟩
 .rw[k b (by simp[j])];exact R.fr b j
 .rw[k le (by simp)];exact R.el
 .rw[k lp (by simp)];exact R.pl
 .unfold Vbptal.withPaper;rw[yG];refine fQ R.Sn R.xE hi (λu v M q z=>z.mono (λo e=>?_) n) L;have B:u∈Mu:=by rw[R.mu];simp[M]
  rw[I u B q];exact e
 .rw[k lq (by simp)];exact R.ql
theorem BX.put(R:BX T F H r s Mu dx le lp lq lm es ps qs fs){i:Nat}{a:Addr}{x:Vbptal.Paper}(hi:ps[i]?=some a){I lw lk O:Addr}{J:List (Str×V)}(ha:H a=some (.ins T.Bx I J))(pf:WK J x.day lw lk O)(hw:LI (CE.Bl Mu H) lw x.words)
  {H1 H2:Hp} {j n:Addr} {l:List Nat} {kvs:List (Nat×Nat)} (U:AN H H1) (nk:H j=none) (Y:LI H1 j l) (k2:∀b o,b≠a->H1 b=some o->H2 b=some o) (nm:H1 n=none)
  (aa:H2 a=some (.ins T.Bx I (Ad "meanings" (.ref n) (Ad "marks" (.ref j) J)))) (ab:H2 n=some (.dK (kvsOf kvs))) (hM:dI l kvs):
  BX T F H2 r (Vbptal.withPaper s (i:Int) {x with marks:=l}) Mu dx le lp lq lm es ps qs fs/\AN (CE.Bl Mu H) (CE.Bl Mu H2)/\∀b∈F,H2 b=H b:=by
 have q:a∈ps:=xO hi;have M:a∈Mu:=by rw[R.mu];simp[q]
 have sm:AN (CE.Bl Mu H) (CE.Bl Mu H2):=JV λb o L z=>⟨L,k2 b o (λe=>L (by rw[e];exact M)) (U _ _ z)⟩;have hk:∀b∈Mu,b≠a->H2 b=H b:=λb L ae=>by
  cases z:H b with
  |none=>exact absurd z (R.there b L)
  |some o=>exact k2 b o ae (U _ _ z)
 have B:j∉Mu:=λz=>R.there _ z nk;have N:n∉Mu:=λz=>R.there _ z (U.free nm);refine⟨R.o7 hi sm hk ⟨I,lw,j,n,kvs,_,aa,pf.again j n,hw.mono sm,?_,?_,hM⟩,sm,λb L=>hk b (R.ZD q (by simp[L])).1 (R.ZD q (by simp[L])).2⟩
 .unfold LI;rw[As B];exact k2 _ _ (λe=>B (by rw[e];exact M)) Y
 .rw[As N];exact ab
end
inductive QN(C:Addr)(vs:List V)(H:Hp)(Q:VK)(z3_:XK):Prop
 |mk (a dx lw lk lm:Addr) (fs:List (Str×V)) (day i:Nat) (l:List Nat) (_:vs=[.ref a,vn i]) (_:H a=some (.ins C dx fs)) (_:WK fs day lw lk lm) (_:LI H lk l) (_:Q (.bl (decide (i<l.length))) H)
theorem HR(T:Txt w K mg):FB P w mg base T.JG 1 (QN T.Bx):=by refine Ce T.JG Pm λn A j s H vs Q E J h=>?_;obtain⟨a,dx,lw,lk,lm,fs,day,i,l,rfl,z,B,I,q⟩:=h;refine⟨_,(AF (AK (Eh Nz (pv 1) (IM T.Be (AO (pv 0) rfl)) (G5 _)))),?_⟩;dsimp only[A0,Cx.Ck];refine⟨_,rfl,_,rfl,a,_,dx,_,_,rfl,z,T.BC,T.BL,B.marks,lk,_,rfl,.inl I.sq,_,_,rfl,rfl,?_⟩;rw[Am];show Q (.bl (decide (((i:Nat):Int)< ((l.length:Nat):Int)))) H;rw[IS];exact q
inductive Vy(T:Txt w K mg)(vs:List V)(H:Hp)(Q:VK)(z3_:XK):Prop
 |mk (F:List Addr) (r:Addr) (s:Vbptal.State) (Mu:List Addr) (p:Nat) (_:vs=[.ref r,vn p]) (_:Rep T F H r s Mu) (_:B8 s) (_:Ro H (Vbptal.act s (.told (p:Int))).2 Q)
theorem Wf(T:Txt w K mg):FB P w mg base T.QF 2 (Vy T):=by
 refine Ce T.QF Nu λab A J s H vs Q E L h=>?_;obtain⟨F,r,st,Mu,p,rfl,hR,ok,q⟩:=h;obtain⟨dx,le,lp,lq,lm,es,ps,qs,fs,R⟩:=id hR;refine⟨_,(AD (Ab (Ba (A7 (HN L (pv 0) T.AM T.B2 (B3 T) (AA (pv 1) AE)))) (AF (AK (AZ (AA (gi T.E8) AE)))) AQ) (AD (B6 2 Nu.nd (Cv (AO (pv 0) rfl) (pv 1))) (AF (AK (Ap DF (Ap DF (AZ (AA (AO (pv 2) rfl) AE)) (CI L (Cs T) T.DQ (AA (AO (pv 2) rfl) AE))) (CI L (Cs T) T.DQ (AA (AO (pv 2) rfl) AE))))))),?_⟩;dsimp only[A0,Cx.Ck];refine AU (!decide (p<st.papers.length)) (λQ q=>⟨_,rfl,r,dx,_,rfl,R.BP,R.rf.n4,_,rfl,F,r,st,Mu,p,rfl,hR,_,rfl,q⟩) (λh=>?_) (λh=>?_)
 .rw[show Vbptal.act st (.told (p:Int))=(st,[-5])from MO (by simpa using h)]at q;exact⟨AW Dc,q.lst (AN.refl _) rfl⟩
 .obtain⟨x,M⟩:=HE (l:=st.papers) (i:=p) (by simpa using h);rw[show Vbptal.act st (.told (p:Int))=(st,(x.day:Int)::Vbptal.counted x.words++Vbptal.counted x.marks)from IY M]at q;obtain⟨a,ha,hv,n,lw,lk,ae,kvs,af,h1,N,O,hk,hm,hM⟩:=R.pap M;have B:=ok.Fy x (xO M);have ag:x.words.length<=6:=Vb B.up λw O=>⟨xi _,B.tP w O⟩;have ah:=B.Wh;have U:=O.mono (Af _ _);have Y:=hk.mono (Af _ _);refine AS ⟨_,rfl,r,_,dx,_,_,rfl,R.BP,T.AM,T.Aq,R.rf.Sn,_,rfl,lp,_,_,_,rfl,rfl,Ah.of R.pl,at_of (j:=p) rfl hv,?_⟩;refine⟨_,rfl,a,_,n,_,_,rfl,h1,T.BC,T.KA,N.day,AW (by show 1<=1000;decide),λp1 n1=>?_⟩;refine⟨_,rfl,a,_,n,_,_,rfl,(AI n1) _ _ h1,T.BC,T.G0,N.words,lw,_,rfl,(U.mono (AI n1)).z,by rw[A9];lia,λH2 p2 s2 n2 g2=>?_⟩;rw[<-DE]at g2;have g1:=s2 p1 _ AB;have aa:=(AI (o:=.lst [vn x.day]) n1).trans s2;refine⟨p1,p2,_,_,rfl,rfl,g1,g2,?_,λp3 n3=>?_⟩
  .rw[xH,A6];exact AW (by show 1+_<=_;lia)
  have I:=aa.trans (AI (o:=.lst ([vn x.day]++(Vbptal.counted x.words).map V.int)) n3);refine⟨_,rfl,a,_,n,_,_,rfl,I _ _ h1,T.BC,T.BL,N.marks,lk,_,rfl,(Y.mono I).z,by rw[A9];lia,λH4 p4 s4 n4 g4=>?_⟩;rw[<-DE]at g4;refine⟨p3,p4,_,_,rfl,rfl,s4 p3 _ AB,g4,?_,?_⟩
  .rw[xS,xH,xH,A6,A6];exact AW (by show 1+_+_<=_;lia)
  .refine q.lst (I.trans s4) ?_;rw[xX];rfl
theorem Wr.say{T:Txt w K mg}{F:List Addr}{H H1:Hp}{r:Addr}{Mu:List Addr}{s:Vbptal.State}{p:Vbptal.State×Vbptal.Answer}{n:Int}{Q:VK}(h:Wr T F H r Mu p.1 p.2 Q)(R:Rep T F H r s Mu)(e:p=(s,[n]))(j:AN H H1):∀p,H1 p=none->Q (.ref p) (upd H1 p (.lst [V.int n])):=by subst e;exact(h.ro R).lst j rfl
inductive Zp(T:Txt w K mg)(vs:List V)(H:Hp)(Q:VK)(z3_:XK):Prop
 |mk (F:List Addr) (r:Addr) (s:Vbptal.State) (Mu:List Addr) (p e c:Nat) (_:vs=[.ref r,vn p,vn e,vn c]) (_:Rep T F H r s Mu) (_:B8 s) (_:Wr T F H r Mu (Vbptal.act s (.mark (p:Int) (e:Int) (c:Int))).1 (Vbptal.act s (.mark (p:Int) (e:Int) (c:Int))).2 Q)
theorem Z3(T:Txt w K mg):FB P w mg base T.Uy 4 (Zp T):=by
 refine Ce T.Uy Rq λah A O s H vs Q E N h=>?_;obtain⟨F,r,st,Mu,p,e,c,rfl,B,ok,q⟩:=h;obtain⟨dx,le,lp,lq,lm,es,ps,qs,fs,R⟩:=id B;refine⟨_,(AD (Ab (Ba (A7 (HN N (pv 0) T.AM T.B2 (B3 T) (AA (pv 1) AE)))) (AF (AK (AZ (AA (gi T.E8) AE)))) AQ) (AD (Ab (Ba (A7 (HN N (pv 0) T.AM T.BS (BU T) (AA (pv 2) (AA (pv 3) AE))))) (AF (AK (AZ (AA (gi T.CM) AE)))) AQ) (AD (B6 4 Rq.nd (Cv (AO (pv 0) rfl) (pv 1))) (AD (Ab (CA A5 (IM T.Be (AO (pv 4) rfl)) (gi T.O4)) (AF (AK (AZ (AA (gi T.dO) AE)))) AQ) (AD (A3 (HN N (pv 4) T.BC T.DG (DB T) (AA (Ap DF (AO (pv 4) rfl) (AZ (AA (HN N (pv 0) T.AM T.BB (A8 T) (AA (pv 2) (AA (pv 3) AE))) AE))) AE))) (AF (AK (AZ (AA (Ap IH (IM T.Be (AO (pv 4) rfl)) AL) AE))))))))),?_⟩;dsimp only[A0,Cx.Ck];refine AU (!decide (p<st.papers.length)) (λQ q=>⟨_,rfl,r,dx,_,rfl,R.BP,R.rf.n4,_,rfl,F,r,st,Mu,p,rfl,B,_,rfl,q⟩) (λh=>?_) (λh=>?_)
 .exact⟨AW Dc,q.say B (MO (by simpa using h)) (AN.refl _)⟩
 obtain⟨x,U⟩:=HE (l:=st.papers) (i:=p) (by simpa using h);have ea:Vbptal.act st (.mark (p:Int) (e:Int) (c:Int))=_:=IY U;rw[ea]at q;refine AU (!hasCls st e c) (λQ q=>⟨_,rfl,r,dx,_,rfl,R.BP,R.rf.n2,_,rfl,_,rfl,F,r,st,Mu,e,c,rfl,B,_,rfl,q⟩) (λh=>?_) (λh=>?_)
 .exact⟨AW Dc,q.say B (MW (by simpa using h)) (AN.refl _)⟩
 obtain⟨z,y,hz,hy⟩:=C6 (s:=st) (e:=e) (c:=c) (by simpa using h);rw[Eo hz hy]at q;obtain⟨a,ha,hv,n,lw,lk,ai,kvs,Y,h1,J,hw,hk,hm,hM⟩:=R.pap U;have aj:=(ok.Fy x (xO U)).Wh;have L:=hk.mono (Af _ _);refine AS ⟨_,rfl,r,_,dx,_,_,rfl,R.BP,T.AM,T.Aq,R.rf.Sn,_,rfl,lp,_,_,_,rfl,rfl,Ah.of R.pl,at_of (j:=p) rfl hv,?_⟩;refine AU (decide (x.marks.length=3)) (λQ q=>⟨_,rfl,a,_,n,_,_,rfl,h1,T.BC,T.BL,J.marks,lk,_,rfl,.inl L.sq,rfl,_,rfl,by rw[Am];exact IE (b:=3) q⟩) (λh=>?_) (λh=>?_)
 .exact⟨AW Dc,q.say B (xQ (by rw[xI h];decide)) (AN.refl _)⟩
 have h3:¬Vbptal.MARKS<=x.marks.length:=by have:=xc h;show¬3<=_;lia
 rw[xJ h3]at q;have ak:x.marks.length<3:=AAV h3;refine D3 ⟨_,rfl,a,n,_,rfl,h1,J.u9,_,rfl,a,_,n,_,_,rfl,h1,T.BC,T.BL,J.marks,_,rfl,r,dx,_,rfl,R.BP,R.rf.n3,_,rfl,_,rfl,F,r,st,Mu,e,c,z,y,rfl,B,hz,hy,AW (by show 1<=1000;decide),λp1 n1=>⟨lk,p1,_,_,rfl,rfl,L.mono (AI n1),AB,?_,λp2 n2=>?_⟩⟩
 .rw[Am];exact AW (by show _+1<=_;lia)
 have s2:=(AI (o:=.lst [vn y.mask]) n1).trans (AI (o:=.lst (Bs x.marks++[vn y.mask])) n2);have g2:LI (upd (upd H p1 (.lst [vn y.mask])) p2 (.lst (Bs x.marks++[vn y.mask]))) p2 (x.marks++[y.mask]):=by unfold LI;rw[AB,B4]
 have I:H p2=none:=(AI (o:=.lst [vn y.mask]) n1).free n2;have hl:(x.marks++[y.mask]).length<=3:=by rw[xS];show _+1<=3;lia
 have am:=J.len;refine⟨a,n,p2,Y,x.marks++[y.mask],rfl,s2 _ _ h1,Om,g2,hl,λH2 aa ag k2 nm M ab ae=>?_⟩;obtain⟨R2,sm,kF⟩:=R.put ha h1 J hw s2 I g2 k2 nm M ab ae;have af:p2≠a:=λz=>by rw[z,h1]at I;cases I
 refine⟨_,rfl,a,_,n,_,_,rfl,M,T.BC,T.BL,(J.again p2 aa).marks,p2,_,rfl,.inl (LI.sq (k2 _ _ af g2)),_,_,rfl,rfl,AW (by show 1<=1000;decide),(q.fin sm kF ⟨_,_,_,_,_,_,_,_,_,R2⟩).lst (AN.refl _) ?_⟩;rw[Am,xS];show[V.int (((x.marks.length+1:Nat):Int) - 1)]=[V.int (x.marks.length:Int)];rw[show(((x.marks.length+1:Nat):Int) - 1)=(x.marks.length:Int) by lia]
inductive X2(T:Txt w K mg)(vs:List V)(H:Hp)(Q:VK)(z3_:XK):Prop
 |mk (F:List Addr) (r:Addr) (s:Vbptal.State) (Mu:List Addr) (p i:Nat) (_:vs=[.ref r,vn p,vn i]) (_:Rep T F H r s Mu) (_:B8 s) (_:Wr T F H r Mu (Vbptal.act s (.unmark (p:Int) (i:Int))).1 (Vbptal.act s (.unmark (p:Int) (i:Int))).2 Q)
theorem Xy(T:Txt w K mg):FB P w mg base T.SU 4 (X2 T):=by
 refine Ce T.SU Pa λaj A Y s H vs Q E hr h=>?_;obtain⟨F,r,st,Mu,p,i,rfl,N,ok,q⟩:=h;obtain⟨dx,le,lp,lq,lm,es,ps,qs,fs,R⟩:=id N;refine⟨_,(AD (Ab (PW.pt (Ds (Ba (A7 (HN hr (pv 0) T.AM T.B2 (B3 T) (AA (pv 1) AE)))) (DC (Ba (A7 (HN hr (Cv (AO (pv 0) rfl) (pv 1)) T.BC T.HX (HR T) (AA (pv 2) AE))))))) (AF (AK (AZ (AA (gi T.E8) AE)))) AQ) (AD (B6 3 Pa.nd (Cv (AO (pv 0) rfl) (pv 1))) (AD (A3 (HN hr (pv 3) T.BC T.DG (DB T) (AA (Ap DF (D0 FO (AO (pv 3) rfl) J7 (Dn (pv 2))) (D0 FO (AO (pv 3) rfl) (Dn (Ap EK (pv 2) AL)) J7)) AE))) (AF (AK (AZ (AA (IM T.Be (AO (pv 3) rfl)) AE))))))),?_⟩;dsimp only[A0,Cx.Ck];by_cases M:¬p<st.papers.length
 .refine AU true (λQ q=>⟨_,rfl,r,dx,_,rfl,R.BP,R.rf.n4,_,rfl,F,r,st,Mu,p,rfl,N,_,rfl,?_⟩) (λh=>?_) (λh=>by cases h)
  .rw[xV M];exact EG q
  .exact⟨AW Dc,q.say N (MO (xV M)) (AN.refl _)⟩
 have M:=Decidable.not_not.mp M;obtain⟨x,hx⟩:=HE (l:=st.papers) (i:=p) (xR M);have ea:Vbptal.act st (.unmark (p:Int) (i:Int))=_:=IY hx;rw[ea,yG]at q;obtain⟨a,ha,hv,n,lw,lk,aa,kvs,O,h1,B,hw,hk,hm,hM⟩:=R.pap hx;have ak:=(ok.Fy x (xO hx)).Wh;have I:=hk.mono (Af _ _);refine AU (!decide (i<x.marks.length)) (λQ q=>⟨_,rfl,r,dx,_,rfl,R.BP,R.rf.n4,_,rfl,F,r,st,Mu,p,rfl,N,_,rfl,?_⟩) (λh=>?_) (λh=>?_)
 .rw[xR M];exact ED ⟨_,rfl,r,_,dx,_,_,rfl,R.BP,T.AM,T.Aq,R.rf.Sn,_,rfl,lp,_,_,_,rfl,rfl,Ah.of R.pl,at_of (j:=p) rfl hv,a,n,_,rfl,h1,B.vM,_,rfl,a,n,lw,lk,aa,O,x.day,i,x.marks,rfl,h1,B,I,_,rfl,q⟩
 .exact⟨AW Dc,q.say N (xQ (by simpa using h)) (AN.refl _)⟩
 have hi:i<x.marks.length:=by simpa using h
 rw[xJ Om]at q;refine AS ⟨_,rfl,r,_,dx,_,_,rfl,R.BP,T.AM,T.Aq,R.rf.Sn,_,rfl,lp,_,_,_,rfl,rfl,Ah.of R.pl,at_of (j:=p) rfl hv,?_⟩;refine D3 ⟨_,rfl,a,n,_,rfl,h1,B.u9,_,rfl,a,_,n,_,_,rfl,h1,T.BC,T.BL,B.marks,_,rfl,_,rfl,lk,_,rfl,I.sq,λp1 n1=>?_⟩;rw[show GP (Bs x.marks) none (some (i:Int))=Bs (x.marks.take i) by rw[gY];exact(AAY ..).symm];refine⟨_,rfl,a,_,n,_,_,rfl,(AI n1) _ _ h1,T.BC,T.BL,B.marks,_,rfl,_,_,rfl,rfl,_,rfl,lk,_,rfl,(I.mono (AI n1)).sq,λp2 n2=>?_⟩;rw[show GP (Bs x.marks) (some ((i:Int)+1)) none=Bs (x.marks.drop (i+1)) by rw[show((i:Int)+1)=((i+1:Nat):Int)from rfl,Qs];exact(ABg ..).symm];have s1:=AI (o:=.lst (Bs (x.marks.take i))) n1;have s2:=s1.trans (AI (o:=.lst (Bs (x.marks.drop (i+1)))) n2);refine⟨p1,p2,_,_,rfl,rfl,(AI n2) _ _ AB,AB,?_,λJ n3=>?_⟩
 .rw[Am,Am,xt,zh];exact AW Om
 have s3:=s2.trans (AI (o:=.lst (Bs (x.marks.take i)++Bs (x.marks.drop (i+1)))) n3);have L:H J=none:=s2.free n3;have hE:Bs (x.marks.take i)++Bs (x.marks.drop (i+1))=Bs (x.marks.eraseIdx i):=by rw[List.eraseIdx_eq_take_drop_succ];exact(xX ..).symm
 have g3:LI (upd (upd (upd H p1 (.lst (Bs (x.marks.take i)))) p2 (.lst (Bs (x.marks.drop (i+1))))) J (.lst (Bs (x.marks.take i)++Bs (x.marks.drop (i+1))))) J (x.marks.eraseIdx i):=by unfold LI;rw[AB,hE]
 have ab:(x.marks.eraseIdx i).length=x.marks.length - 1:=by rw[List.length_eraseIdx,xQ hi]
 have am:=B.len;refine⟨a,n,J,O,x.marks.eraseIdx i,rfl,s3 _ _ h1,Om,g3,Om,λH2 ae ai k2 nm U af ag=>?_⟩;obtain⟨R2,sm,kF⟩:=R.put ha h1 B hw s3 L g3 k2 nm U af ag;have ah:J≠a:=λz=>by rw[z,h1]at L;cases L
 refine⟨_,rfl,a,_,n,_,_,rfl,U,T.BC,T.BL,(B.again J ae).marks,J,_,rfl,.inl (LI.sq (k2 _ _ ah g3)),AW (by show 1<=1000;decide),(q.fin sm kF ⟨_,_,_,_,_,_,_,_,_,R2⟩).lst (AN.refl _) ?_⟩;rw[Am,ab];show[V.int ((x.marks.length - 1:Nat):Int)]=[V.int ((x.marks.length:Int) - 1)];rw[show((x.marks.length - 1:Nat):Int)=(x.marks.length:Int) - 1 by lia]
inductive UX(T:Txt w K mg)(vs:List V)(H:Hp)(Q:VK)(z3_:XK):Prop
 |mk (F:List Addr) (r:Addr) (s:Vbptal.State) (Mu:List Addr) (p i e c:Nat) (_:vs=[.ref r,vn p,vn i,vn e,vn c]) (_:Rep T F H r s Mu) (_:B8 s) (_:Wr T F H r Mu (Vbptal.act s (.remark (p:Int) (i:Int) (e:Int) (c:Int))).1 (Vbptal.act s (.remark (p:Int) (i:Int) (e:Int) (c:Int))).2 Q)
theorem Up(T:Txt w K mg):FB P w mg base T.Nv 4 (UX T):=by
 refine Ce T.Nv Gz λak A aa s H vs Q E N h=>?_;obtain⟨F,r,st,Mu,p,i,e,c,rfl,L,ok,q⟩:=h;obtain⟨dx,le,lp,lq,lm,es,ps,qs,fs,R⟩:=id L;refine⟨_,(AD (Ab (Ba (A7 (HN N (pv 0) T.AM T.B2 (B3 T) (AA (pv 1) AE)))) (AF (AK (AZ (AA (gi T.E8) AE)))) AQ) (AD (Ab (Ba (A7 (HN N (pv 0) T.AM T.BS (BU T) (AA (pv 3) (AA (pv 4) AE))))) (AF (AK (AZ (AA (gi T.CM) AE)))) AQ) (AD (B6 5 Gz.nd (Cv (AO (pv 0) rfl) (pv 1))) (AD (Ab (Ba (A7 (HN N (pv 5) T.BC T.HX (HR T) (AA (pv 2) AE)))) (AF (AK (AZ (AA (gi T.E8) AE)))) AQ) (AD (B6 6 Gz.nd (Ap Gm (Cv (AO (pv 5) rfl) (pv 2)) (HN N (pv 0) T.AM T.BB (A8 T) (AA (pv 3) (AA (pv 4) AE))))) (AD (Ab (CA A5 (pv 6) AL) (AF (AK (AZ (AA (gi T.K5) AE)))) AQ) (AD (A3 (HN N (pv 5) T.BC T.DG (DB T) (AA (Ap DF (Ap DF (D0 FO (AO (pv 5) rfl) J7 (Dn (pv 2))) (AZ (AA (pv 6) AE))) (D0 FO (AO (pv 5) rfl) (Dn (Ap EK (pv 2) AL)) J7)) AE))) (AF (AK (AZ (AA (CI N (Ue T) T.XM (AA (pv 6) AE)) AE))))))))))),?_⟩;dsimp only[A0,Cx.Ck];refine AU (!decide (p<st.papers.length)) (λQ q=>⟨_,rfl,r,dx,_,rfl,R.BP,R.rf.n4,_,rfl,F,r,st,Mu,p,rfl,L,_,rfl,q⟩) (λh=>?_) (λh=>?_)
 .exact⟨AW Dc,q.say L (MO (by simpa using h)) (AN.refl _)⟩
 obtain⟨x,hx⟩:=HE (l:=st.papers) (i:=p) (by simpa using h);have ea:Vbptal.act st (.remark (p:Int) (i:Int) (e:Int) (c:Int))=_:=IY hx;rw[ea]at q;refine AU (!hasCls st e c) (λQ q=>⟨_,rfl,r,dx,_,rfl,R.BP,R.rf.n2,_,rfl,_,rfl,F,r,st,Mu,e,c,rfl,L,_,rfl,q⟩) (λh=>?_) (λh=>?_)
 .exact⟨AW Dc,q.say L (MW (by simpa using h)) (AN.refl _)⟩
 obtain⟨z,y,hz,hy⟩:=C6 (s:=st) (e:=e) (c:=c) (by simpa using h);rw[Eo hz hy,yG]at q;obtain⟨a,ha,hv,B,lw,lk,ab,kvs,O,h1,M,hw,hk,hm,hM⟩:=R.pap hx;have U:=ok.Fy x (xO hx);have am:=U.Wh;have I:=hk.mono (Af _ _);refine AS ⟨_,rfl,r,_,dx,_,_,rfl,R.BP,T.AM,T.Aq,R.rf.Sn,_,rfl,lp,_,_,_,rfl,rfl,Ah.of R.pl,at_of (j:=p) rfl hv,?_⟩;refine AU (!decide (i<x.marks.length)) (λQ q=>⟨_,rfl,a,B,_,rfl,h1,M.vM,_,rfl,a,B,lw,lk,ab,O,x.day,i,x.marks,rfl,h1,M,I,_,rfl,q⟩) (λh=>?_) (λh=>?_)
 .refine⟨AW Dc,q.say L ?_ (AN.refl _)⟩;have:x.marks[i]?=none:=yc (Nat.not_lt.mp (show¬i<x.marks.length by simpa using h));rw[this]
 have hi:i<x.marks.length:=by simpa using h
 have J:x.marks[i]?=some x.marks[i]:=xW hi;generalize an:x.marks[i]=m at J;rw[J]at q;have ae:=(U.mlt m (xO J)).1;refine AS ⟨_,rfl,a,_,B,_,_,rfl,h1,T.BC,T.BL,M.marks,_,rfl,lk,_,_,_,rfl,rfl,I.sq,at_of (j:=i) rfl (by unfold Bs;rw[xh,J];rfl),_,rfl,r,dx,_,rfl,R.BP,R.rf.n3,_,rfl,_,rfl,F,r,st,Mu,e,c,z,y,rfl,L,hz,hy,_,_,rfl,rfl,?_⟩;rw[show V.int (Builtin.bitAnd (m:Int) (y.mask:Int))=vn (Vbptal.meet m y.mask) by rw[EM,<-iQ ae]];refine AU (decide (Vbptal.meet m y.mask=0)) (λQ q=>⟨_,rfl,rfl,_,rfl,IE (b:=0) q⟩) (λh=>?_) (λh=>?_)
 .exact⟨AW Dc,q.say L (xQ (xI h)) (AN.refl _)⟩
 have q:=q;simp only[xJ (xc h)]at q;generalize Vbptal.meet m y.mask=n at q;refine D3 ⟨_,rfl,a,B,_,rfl,h1,M.u9,_,rfl,a,_,B,_,_,rfl,h1,T.BC,T.BL,M.marks,_,rfl,_,rfl,lk,_,rfl,I.sq,λp1 n1=>?_⟩;rw[show GP (Bs x.marks) none (some (i:Int))=Bs (x.marks.take i) by rw[gY];exact(AAY ..).symm];have s1:=AI (o:=.lst (Bs (x.marks.take i))) n1;refine⟨_,rfl,AW (by show 1<=1000;decide),λp2 n2=>⟨p1,p2,_,_,rfl,rfl,(AI n2) _ _ AB,AB,?_,λp3 n3=>?_⟩⟩
 .rw[Am,xt];exact AW (by show _+1<=_;lia)
 have s2:=s1.trans (AI (o:=.lst [vn n]) n2);have Y:=s2.trans (AI (o:=.lst (Bs (x.marks.take i)++[vn n])) n3);refine⟨_,rfl,a,_,B,_,_,rfl,Y _ _ h1,T.BC,T.BL,M.marks,_,rfl,_,_,rfl,rfl,_,rfl,lk,_,rfl,(I.mono Y).sq,λp4 n4=>?_⟩;rw[show GP (Bs x.marks) (some ((i:Int)+1)) none=Bs (x.marks.drop (i+1)) by rw[show((i:Int)+1)=((i+1:Nat):Int)from rfl,Qs];exact(ABg ..).symm];have s4:=Y.trans (AI (o:=.lst (Bs (x.marks.drop (i+1)))) n4);refine⟨p3,p4,_,_,rfl,rfl,(AI n4) _ _ AB,AB,?_,λp5 n5=>?_⟩
 .rw[xS,Am,Am,xt,zh];exact AW (by show _+1+_<=_;lia)
 have s5:=s4.trans (AI (o:=.lst (Bs (x.marks.take i)++[vn n]++Bs (x.marks.drop (i+1)))) n5);have af:H p5=none:=s4.free n5;have hE:Bs (x.marks.take i)++[vn n]++Bs (x.marks.drop (i+1))=Bs (x.marks.set i n):=by rw[AA3,xQ hi];unfold Bs;rw[xX,yE,yB];rfl
 have g5:LI _ p5 (x.marks.set i n):=(AB (H:=upd (upd (upd (upd H p1 (.lst (Bs (x.marks.take i)))) p2 (.lst [vn n])) p3 (.lst (Bs (x.marks.take i)++[vn n]))) p4 (.lst (Bs (x.marks.drop (i+1))))) (a:=p5)).trans (x3 (λz=>some (HO.lst z)) hE);have ao:=M.len;have ap:(x.marks.set i n).length=x.marks.length:=zZ ..;refine⟨a,B,p5,O,x.marks.set i n,rfl,s5 _ _ h1,Om,g5,Om,λH2 aq aj k2 nm ag ah ai=>?_⟩;obtain⟨R2,sm,kF⟩:=R.put ha h1 M hw s5 af g5 k2 nm ag ah ai;exact⟨_,rfl,n,rfl,λH3 Y=>⟨AW (by show 1<=1000;decide),(q.fin sm kF ⟨_,_,_,_,_,_,_,_,_,R2⟩).lst Y rfl⟩⟩
end
theorem nW{j:Type}{l:List j}{n:Nat}(h:l.length=n+1):l.getLast?=l[n]?:=by rw[List.getLast?_eq_getElem?,h];rfl
section
variable{P:Program}{w:World}{K:PySem.W.Frag}{mg:Str->Option Value}{base:Heap}
section
variable{T:Txt w K mg}{F:List Addr}{H:Hp}{r:Addr}{s:Vbptal.State}{Mu:List Addr}{dx le lp lq lm:Addr}{es ps:List Addr}{qs:List (Option (Addr×Addr))}{fs:List (Str×V)}
theorem BX.f7(R:BX T F H r s Mu dx le lp lq lm es ps qs fs)(h:b∈le::lq::(ps++(EY qs++F))):b∈Mu/\b≠lp:=by
 have j:=R.nd;rw[R.mu]at j⊢;rw[yA,yA]at j;rcases xb.mp h with e|e
 .subst e;exact⟨xl ..,λz=>j.1 (by rw[z];exact xl ..)⟩
 .exact⟨xY _ (xY _ e),λz=>j.2.1 (by rw[<-z];exact e)⟩
theorem BX.ml(R:BX T F H r s Mu dx le lp lq lm es ps qs fs)(q:n=le::lp::lq::((ps++[a])++(EY qs++F)))(I:a∉Mu)(B:AN (CE.Bl Mu H) (CE.Bl n H'))
  (L:∀b∈Mu,b≠lp->H' b=H b) (M:H' lp=some (.lst (ps.map V.ref++[.ref a]))) (N:F6 T.Bx H' (CE.Bl n H') a x):BX T F H' r {s with papers:=s.papers++[x]} n dx le lp lq lm es (ps++[a]) qs fs:=by
 have k:∀b,b∈le::lq::(ps++(EY qs++F))->H' b=H b:=λb j=>L b (R.f7 j).1 (R.f7 j).2;have J:=R.nd;refine⟨q,?_,λb j=>?_,B _ _ R.X0,R.rf,?_,Paired.BO (λ_ _ z=>z.mono B) R.Eu,?_,?_,?_,JN R.WJ (λb j=>k b (by simp[j])) B,R.ms.mono B⟩
 .rw[q];rw[R.mu]at J I;have O:List.Perm (le::lp::lq::((ps++[a])++(EY qs++F))) (a::(le::lp::lq::(ps++(EY qs++F)))):=by
   have:le::lp::lq::((ps++[a])++(EY qs++F))=(le::lp::lq::ps)++a::(EY qs++F):=by simp
   rw[this];exact List.perm_middle
  exact O.nodup_iff.mpr (yA.mpr ⟨I,J⟩)
 .rw[k b (by simp[j])];exact R.fr b j
 .rw[k le (by simp)];exact R.el
 .rw[M,xX];rfl
 .exact BR (JK R.Sn (λb j=>k b (by simp[j])) B) N
 .rw[k lq (by simp)];exact R.ql
end
inductive ZW(T:Txt w K mg)(vs:List V)(H:Hp)(Q:VK)(z3_:XK):Prop
 |mk (F:List Addr) (r:Addr) (s:Vbptal.State) (Mu:List Addr) (d:Nat) (lw lc:Addr) (ws cs:List Nat) (_:vs=[.ref r,vn d,.ref lw,.ref lc]) (_:Rep T F H r s Mu) (_:B8 s) (_:LI (CE.Bl Mu H) lw ws) (_:LI (CE.Bl Mu H) lc cs) (_:cs.length<=3) (_:Wr T F H r Mu (Vbptal.act s (.paper (d:Int) (Vbptal.ints ws) (Vbptal.ints cs))).1 (Vbptal.act s (.paper (d:Int) (Vbptal.ints ws) (Vbptal.ints cs))).2 Q)
theorem qb(h:s.papers.length=12):Vbptal.act s (.paper d a b)=(s,[-3]):=xQ (by show 12<=_;lia)
theorem r6(h:¬12<=s.papers.length)(h2:s.editions.length=0):Vbptal.act s (.paper d a b)=(s,[-7]):=by show(if Vbptal.PAPERS<=s.papers.length then _ else match s.editions.getLast? with|none=>_|some e=>_)=_;rw[xJ (show¬Vbptal.PAPERS<=s.papers.length from h),yR.mp h2];rfl
theorem rS{s:Vbptal.State}{d:Nat}{q j:List Nat}{n:Nat}{e:Vbptal.Edition}(h:¬12<=s.papers.length)(h2:s.editions.length=n+1)(z:s.editions[n]?=some e):Vbptal.act s (.paper (d:Int) (Vbptal.ints q) (Vbptal.ints j))=
  if(j.all λc=>decide (c<e.length))=false then(s,[-7])else({s with papers:=s.papers++[⟨d,q,j.map λc=>Vbptal.maskAt e c⟩]},[(s.papers.length:Int)]):=by
 show(if Vbptal.PAPERS<=s.papers.length then _ else match s.editions.getLast? with|none=>_|some e=>_)=_;rw[xJ (show¬Vbptal.PAPERS<=s.papers.length from h),nW h2,z];show(if((Vbptal.ints j).all λc=>decide (c.toNat<e.length))=false then _ else({s with papers:=s.papers++[Vbptal.Paper.mk (d:Int).toNat (Vbptal.nats (Vbptal.ints q)) ((Vbptal.ints j).map λ(c:Int)=>Vbptal.maskAt e c.toNat)]},_))=_;rw[JB];unfold Vbptal.ints;rw[ABE,yg];rfl
theorem Y6(T:Txt w K mg):FB P w mg base T.Rt 6 (ZW T):=by
 refine Ce T.Rt Dq λaz A ai s H vs Q E hr h=>?_;obtain⟨F,r,st,Mu,d,lw,lc,ws,U,rfl,hR,ok,aj,ak,am,q⟩:=h;obtain⟨dx,le,lp,lq,lm,es,ps,qs,fs,R⟩:=id hR;have J:=ak.mono (Af _ _);have ay:=ok.Vk;refine⟨_,(AD (Ab (CA A5 (IM T.Be (AO (pv 0) rfl)) (gi T.WM)) (AF (AK (AZ (AA (gi T.dO) AE)))) AQ) (AD (Ab (CA A5 (IM T.Be (AO (pv 0) rfl)) AL) (AF (AK (AZ (AA (gi T.CM) AE)))) AQ) (AD (Y2 (i:=4) Dq.nd rfl (Or.inr rfl) (Ap IH (IM T.Be (AO (pv 0) rfl)) AL)) (AD (Ab (Ba (A7 (Fm (mi rfl) (by rfl) T.pb W4 (AA (Hw rfl Dq.nd (BE (pv 3)) (show D1 ["records","day","words","classes","last","c","marks"] (A4 Hc) _ [("c",5)]from CB Dk) (λ_ _ _ _ _=>(Dz 5 Dq.nd)) (λ_ _ _ _ _=>Hz) (λ_ _ _ _ _=>(HN hr (pv 0) T.AM T.BS (BU T) (AA (pv 4) (AA (pv 5) AE))))) AE)))) (AF (AK (AZ (AA (gi T.CM) AE)))) AQ) (AD (cK (i:=6) rfl Dq.nd rfl rfl (gJ rfl rfl rfl rfl) (BE (pv 3)) (show D1 ["records","day","words","classes","last","c","marks"] (A4 Hc) _ [("c",5)]from CB Dk) (λ_ _ _ _ _=>(Dz 5 Dq.nd)) (λ_ _ _ _ _=>Hz) (λ_ _ _ _ _=>(HN hr (pv 0) T.AM T.BB (A8 T) (AA (pv 4) (AA (pv 5) AE))))) (AD (A3 (Cn xa xw xx BD (AO (pv 0) rfl) (AA (nA (V4 T) λa b=>TZ T.lY a (hr.mono Dc) rfl T.nq b .nil LK (AA (pv 1) (AA (pv 2) (AA (pv 6) AE)))) AE))) (AF (AK (AZ (AA (Ap IH (IM T.Be (AO (pv 0) rfl)) AL) AE)))))))))),?_⟩;dsimp only[A0,Cx.Ck];refine AU (decide (st.papers.length=12)) (λQ q=>⟨_,rfl,r,_,dx,_,_,rfl,R.BP,T.AM,T.Aq,R.rf.Sn,lp,_,rfl,.inl (Ah.of R.pl),rfl,_,rfl,by rw[R.ic];exact IE (b:=12) q⟩) (λh=>?_) (λh=>?_)
 .exact⟨AW Dc,q.say hR (qb (xI h)) (AN.refl _)⟩
 have ab:¬12<=st.papers.length:=by have:=xc h;lia
 refine AU (decide (st.editions.length=0)) (λQ q=>⟨_,rfl,r,_,dx,_,_,rfl,R.BP,T.AM,T.AY,R.rf.Eu,le,_,rfl,.inl (Ah.of R.el),rfl,_,rfl,by rw[R.dg];exact IE (b:=0) q⟩) (λh=>?_) (λh=>?_)
 .exact⟨AW Dc,q.say hR (r6 ab (xI h)) (AN.refl _)⟩
 obtain⟨n,hn⟩:∃n,st.editions.length=n+1:=⟨st.editions.length - 1,by have:=xc h;lia⟩;obtain⟨e,he⟩:=HE (l:=st.editions) (i:=n) (xR Om);rw[rS ab hn he]at q;have hC:∀c,hasCls st n c=decide (c<e.length):=λc=>by unfold hasCls;rw[he]
 refine AS ⟨_,rfl,r,_,dx,_,_,rfl,R.BP,T.AM,T.AY,R.rf.Eu,le,_,rfl,.inl (Ah.of R.el),_,_,rfl,rfl,?_⟩;rw[R.dg,hn,show V.int (((n+1:Nat):Int) - 1)=vn n by rw[show((n+1:Nat):Int) - 1=(n:Int) by lia]];refine Iq (!U.all λc=>decide (c<e.length)) (λQ q=>?_) (λh=>?_) (λh=>?_)
 .refine⟨_,rfl,lc,rfl,⟨_,J.sq⟩,λD hD=>FP (K:=K) (a:=lc) (xs:=Bs U) (λi H'=>AN H H'/\H' D=some (.lst (((U.take i).map λc=>decide (c<e.length)).map V.bl))) ⟨AI hD,AB⟩ (λi H' _ z=>(J.mono z.1).sq) ?_ ?_⟩
  .rintro i v H' hv ⟨L,hd⟩;obtain⟨k,Y,rfl⟩:=FN hv;refine⟨rfl,SA ?_⟩;refine⟨_,rfl,r,dx,_,rfl,L _ _ R.BP,R.rf.n2,_,rfl,_,rfl,F,r,st,Mu,n,k,rfl,hR.mono L,_,hd,?_,λb o z=>?_,?_⟩
   .rw[xH,xH,xt];exact Az Om
   .rw[AG (AH z hD)];exact L b o z
   .rw[AB,take_succ Y,xX,xX,hC];rfl
  .rintro H' ⟨L,hd⟩;rw[Am,xm]at hd;refine⟨D,_,rfl,Ah.of hd,_,rfl,?_⟩;have:=q H' L;rw[ABE];exact this
 .intro H1 s1;exact⟨AW Dc,q.say hR (xQ (by simpa using h)) s1⟩
 intro H1 s1;have N:(U.all λc=>decide (c<e.length))=true:=by simpa using h
 rw[xJ (by rw[N];decide)]at q;have O:=J.mono s1;refine⟨_,rfl,lc,rfl,⟨_,O.sq⟩,λD hD=>FP (K:=K) (a:=lc) (xs:=Bs U) (λi H'=>AN H1 H'/\LI H' D ((U.take i).map λc=>Vbptal.maskAt e c)) ⟨AI hD,AB⟩ (λi H' _ z=>(O.mono z.1).sq) ?_ ?_⟩
 .rintro i v H' hv ⟨L,hd⟩;obtain⟨k,Y,rfl⟩:=FN hv;have an:k<e.length:=by
   have:=xk.mp N k (xO Y);exact xI this
  have hy:e[k]?=some e[k]:=xW an;refine⟨rfl,SA ?_⟩;refine⟨_,rfl,r,dx,_,rfl,L _ _ (s1 _ _ R.BP),R.rf.n3,_,rfl,_,rfl,F,r,st,Mu,n,k,e,e[k],rfl,hR.mono (s1.trans L),he,hy,_,hd,?_,λb o z=>?_,?_⟩
  .rw[Am,xH,xt];exact Az Om
  .rw[AG (AH z hD)];exact L b o z
  .unfold LI;rw[AB,take_succ Y,xX,<-B4,<-Dl hy];rfl
 rintro H2 ⟨s2,hd⟩;rw[Am,xm]at hd;have I:AN H H2:=s1.trans s2;have nD:H D=none:=s1.free hD;generalize ao:(U.map λc=>Vbptal.maskAt e c)=ms at hd q;have ap:ms.length<=3:=by rw[<-ao,xH];exact am
 refine⟨_,rfl,r,_,dx,_,_,rfl,I _ _ R.BP,T.AM,T.Aq,R.rf.Sn,.inl ⟨rfl,_,Ah.of (I _ _ R.pl)⟩,_,rfl,_,rfl,_,rfl,λx dy nx nd aA=>⟨x,dy,lw,D,d,ms,rfl,AB,?_,ap,λH3 B kvs aq k3 nm h3 pf ar hM=>⟨rfl,?_⟩⟩⟩
 .have aa:D≠x:=AH hd nx;have as:D≠dy:=AH hd nd;unfold LI;rw[AG aa,AG as];exact hd
 have ae:AN H2 H3:=λb o z=>k3 b o (AH z nx) (by rw[AG (AH z nx),AG (AH z nd)];exact z);have M:=I.trans ae;refine⟨lp,ps.map V.ref,.ref x,rfl,rfl,M _ _ R.pl,?_,?_⟩
 .rw[R.ic];exact Az Om
 have au:r≠lp:=Dv R.BP R.pl (by intro z;cases z);refine⟨_,rfl,r,_,dx,_,_,rfl,by rw[AG au];exact M _ _ R.BP,T.AM,T.Aq,R.rf.Sn,lp,_,rfl,.inl (Ah.of AB),_,_,rfl,rfl,AW (by show 1<=1000;decide),?_⟩;have xM:x∉Mu:=λz=>R.there x z (I.free nx);have af:lp∈Mu:=by rw[R.mu];simp
 have ag:x≠lp:=λz=>xM (by rw[z];exact af);have sub:∀b,b∉Mu->b≠x->b∉le::lp::lq::((ps++[x])++(EY qs++F)):=λb j hx z=>by
  rw[R.mu]at j;simp only[xb,xq,yh,AB2,AAi]at j z;rcases z with z|z|z|(z|z)|z|z
  .exact j.1 z
  .exact j.2.1 z
  .exact j.2.2.1 z
  .exact j.2.2.2.1 z
  .exact hx z
  .exact j.2.2.2.2.1 z
  .exact j.2.2.2.2.2 z
 have k4:∀b o,b∉Mu->H3 b=some o->(upd H3 lp (.lst (ps.map V.ref++[.ref x]))) b=some o:=λb o j z=>by rw[AG (λe=>j (by rw[e];exact af))];exact z
 have sm:AN (CE.Bl Mu H) (CE.Bl (le::lp::lq::((ps++[x])++(EY qs++F))) (upd H3 lp (.lst (ps.map V.ref++[.ref x])))):=JV λb o j z=>⟨sub b j (AH (I _ _ z) nx),k4 b o j (M _ _ z)⟩;have Y:∀b∈Mu,b≠lp->(upd H3 lp (.lst (ps.map V.ref++[.ref x]))) b=H b:=λb j e=>by
  rw[AG e];cases z:H b with
  |none=>exact absurd z (R.there b j)
  |some o=>exact M _ _ z
 have DM:D∉Mu:=λz=>R.there D z nD;have aa:D≠x:=AH hd nx;have av:H2 B=none:=by
  by_cases e:B=x
  .rw[e];exact nx
  .by_cases e2:B=dy
   .rw[e2];exact nd
   .rw[AG e,AG e2]at nm;exact nm
 have ax:B≠x:=λe=>by rw[e,AB]at nm;cases nm
 have ah:B∉Mu:=λz=>R.there _ z (I.free av);have R2:=R.ml (a:=x) (x:=⟨d,ws,ms⟩) rfl xM sm Y AB ⟨dy,lw,D,B,kvs,aq,by rw[AG ag];exact h3,pf,aj.mono sm,by unfold LI;rw[As (sub D DM aa)];exact k4 _ _ DM (ae _ _ hd),by rw[As (sub B ah ax)];exact k4 _ _ ah ar,hM⟩;refine(q.fin sm (λb j=>Y b (R.f7 (by simp[j])).1 (R.f7 (by simp[j])).2) ⟨_,_,_,_,_,_,_,_,_,R2⟩).lst (AN.refl _) ?_;rw[xS,R.ic];show[V.int (((st.papers.length+1:Nat):Int) - 1)]=[V.int (st.papers.length:Int)];rw[show(((st.papers.length+1:Nat):Int) - 1)=(st.papers.length:Int) by lia]
theorem Rep.frame(R:Rep T [] H r s Mu)(B:H t=none)(o:HO):Rep T [t] (upd H t o) r s (Mu++[t]):=by
 obtain⟨dx,le,lp,lq,lm,es,ps,qs,fs,R⟩:=R;have I:AN H (upd H t o):=AI B;have n:AN (CE.Bl Mu H) (CE.Bl (Mu++[t]) (upd H t o)):=JV λb u j z=>⟨λq=>(xq.mp q).elim j λq=>(by rw[yD.mp q,B]at z;cases z),I _ _ z⟩;have k:∀b∈Mu,upd H t o b=H b:=λb j=>AG λe=>R.there b j (by rw[e];exact B);refine⟨dx,le,lp,lq,lm,es,ps,qs,fs,?_,?_,?_,n _ _ R.X0,R.rf,I _ _ R.el,Paired.BO (λ_ _ z=>z.mono n) R.Eu,I _ _ R.pl,JK R.Sn (λb j=>k b (by rw[R.mu];simp[j])) n,I _ _ R.ql,JN R.WJ (λb j=>k b (by rw[R.mu];simp[j])) n,R.ms.mono n⟩
 .rw[R.mu];simp
 .refine yX.mpr ⟨R.nd,by simp,λa J b j e=>?_⟩;rw[yD.mp j]at e;exact R.there a J (by rw[e];exact B)
 .intro b j z;rw[yD.mp j,AB]at z;cases z
theorem Rep.vj{T:Txt w K mg}{F:List Addr}{H:Hp}{r:Addr}{s:Vbptal.State}{Mu:List Addr}(R:Rep T F H r s Mu){t:Addr}(n:t∈F)(o:HO):Rep T F (upd H t o) r s Mu:=by
 obtain⟨dx,le,lp,lq,lm,es,ps,qs,fs,R⟩:=R;have I:t∈Mu:=by rw[R.mu];simp[n]
 have q:AN (CE.Bl Mu H) (CE.Bl Mu (upd H t o)):=by rw[Ga I];exact AN.refl _
 have j:=R.nd;rw[R.mu]at j;simp only[yA,yX,xb,xq,AAi]at j;have J:le≠t:=λe=>j.1.2.2.2.2 (by rw[e];exact n);have L:lp≠t:=λe=>j.2.1.2.2.2 (by rw[e];exact n);have M:lq≠t:=λe=>j.2.2.1.2.2 (by rw[e];exact n);refine⟨dx,le,lp,lq,lm,es,ps,qs,fs,R.mu,R.nd,?_,q _ _ R.X0,R.rf,by rw[AG J];exact R.el,Paired.BO (λ_ _ z=>z.mono q) R.Eu,by rw[AG L];exact R.pl,
  JK R.Sn (λb B=>AG λe=>j.2.2.2.2.2 b B t (.inr n) e) q,by rw[AG M];exact R.ql,JN R.WJ (λb B=>AG λe=>j.2.2.2.2.1.2.2 b B t n e) q,R.ms.mono q⟩
 intro b B z;by_cases e:b=t
 .rw[e,AB]at z;cases z
 .rw[AG e]at z;exact R.fr b B z
inductive Sh(T:Txt w K mg)(vs:List V)(H:Hp)(Q:VK)(z3_:XK):Prop
 |mk (p dx:Addr) (_:vs=[.ref p]) (_:H p=some (.ins T.Ao dx [])) (_:∀H' Mu,(∀b o,b≠p->H b=some o->b∉Mu/\H' b=some o)->Rep T [] H' p Vbptal.start Mu->Q .non H')
theorem S8(T:Txt w K mg):FB P w mg base T.L1 5 (Sh T):=by
 refine Ce T.L1 Sv λak A ae s H vs Q E hr h=>?_;obtain⟨p,dx,rfl,hp,q⟩:=h;refine⟨_,(AD (CG (pv 0) (AZ AE) rfl) (AD (CG (pv 0) (AZ AE) rfl) (AD (CG (pv 0) (AZ (AA B9 (AA B9 (AA B9 (AA B9 AE))))) rfl) (AF (CG (pv 0) (nA (Pz T) λa b=>Tg T.ZA a (hr.mono Dc) rfl T.c8 b .nil LK) rfl))))),?_⟩;dsimp only[A0,Cx.Ck];have step:∀{G:Hp}{l:Addr}{o:HO}{f:Str}{fs:List (Str×V)},G p=some (.ins T.Ao dx fs)->G l=none->p≠l/\∀b u,b≠p->G b=some u->(upd (upd G l o) p (.ins T.Ao dx (Ad f (.ref l) fs))) b=some u:=λ{G l o f fs}h1 h2=>
  ⟨AH h1 h2,λb u j z=>by rw[AG j,AG (AH z h2)];exact z⟩
 refine EA ⟨xi _,λle nl=>⟨_,rfl,p,_,dx,[],rfl,by rw[AG (AH hp nl)];exact hp,T.AM,T.AY,(by show 0<1000;decide),?_⟩⟩;obtain⟨e1,k1⟩:=step (o:=.lst []) (f:="editions") hp nl;have g1:(upd (upd H le (.lst [])) p (.ins T.Ao dx (Ad "editions" (.ref le) []))) le=some (.lst []):=by rw[AG (x8 e1),AB]
 have p1:(upd (upd H le (.lst [])) p (.ins T.Ao dx (Ad "editions" (.ref le) []))) p=some (.ins T.Ao dx (Ad "editions" (.ref le) [])):=AB;generalize upd (upd H le (.lst [])) p (.ins T.Ao dx (Ad "editions" (.ref le) []))=H1 at k1 g1 p1⊢;refine EA ⟨xi _,λlp B=>⟨_,rfl,p,_,dx,_,rfl,by rw[AG (AH p1 B)];exact p1,T.AM,T.Aq,put1 _ _,?_⟩⟩;obtain⟨L,k2⟩:=step (o:=.lst []) (f:="papers") p1 B;have g2:(upd (upd H1 lp (.lst [])) p (.ins T.Ao dx (Ad "papers" (.ref lp) (Ad "editions" (.ref le) [])))) lp=some (.lst []):=by rw[AG (x8 L),AB]
 have p2:(upd (upd H1 lp (.lst [])) p (.ins T.Ao dx (Ad "papers" (.ref lp) (Ad "editions" (.ref le) [])))) p=some (.ins T.Ao dx (Ad "papers" (.ref lp) (Ad "editions" (.ref le) []))):=AB;generalize upd (upd H1 lp (.lst [])) p (.ins T.Ao dx (Ad "papers" (.ref lp) (Ad "editions" (.ref le) [])))=H2 at k2 g2 p2⊢;refine EA ⟨AW Dc,λlq n=>⟨_,rfl,p,_,dx,_,rfl,by rw[AG (AH p2 n)];exact p2,T.AM,T.BG,put2 _ _ _ _,?_⟩⟩;obtain⟨e3,k3⟩:=step (o:=.lst [.non,.non,.non,.non]) (f:="queries") p2 n;have g3:(upd (upd H2 lq (.lst [.non,.non,.non,.non])) p (.ins T.Ao dx (Ad "queries" (.ref lq) (Ad "papers" (.ref lp) (Ad "editions" (.ref le) []))))) lq=some (.lst [.non,.non,.non,.non]):=by rw[AG (x8 e3),AB]
 have M:(upd (upd H2 lq (.lst [.non,.non,.non,.non])) p (.ins T.Ao dx (Ad "queries" (.ref lq) (Ad "papers" (.ref lp) (Ad "editions" (.ref le) []))))) p=some (.ins T.Ao dx (Ad "queries" (.ref lq) (Ad "papers" (.ref lp) (Ad "editions" (.ref le) [])))):=AB;generalize upd (upd H2 lq (.lst [.non,.non,.non,.non])) p (.ins T.Ao dx (Ad "queries" (.ref lq) (Ad "papers" (.ref lp) (Ad "editions" (.ref le) []))))=U at k3 g3 M⊢;refine λx dy J nd am=>⟨x,dy,rfl,AB,λH4 O k4 nm af ag=>⟨rfl,_,rfl,p,_,dx,Ad "queries" (.ref lq) (Ad "papers" (.ref lp) (Ad "editions" (.ref le) [])),rfl,?_,T.AM,T.Br,put3 _ _ _ _ _ _,?_⟩⟩
 .exact k4 _ _ (AH M J) (by rw[AG (AH M J),AG (AH M nd)];exact M)
 have I:AN U H4:=λb o z=>k4 b o (AH z J) (by rw[AG (AH z J),AG (AH z nd)];exact z);have Y:H2 le=some (.lst []):=k2 _ _ (x8 e1) g1;have aa:U le=some (.lst []):=k3 _ _ (x8 e1) Y;have ab:U lp=some (.lst []):=k3 _ _ (x8 L) g2;have ah:le≠lp:=AH g1 B;have ai:le≠lq:=AH Y n;have aj:lp≠lq:=AH g2 n;have xp:x≠p:=λe=>by rw[e,M]at J;cases J
 have N:U O=none:=by
  by_cases e:O=x
  .rw[e];exact J
  .by_cases L:O=dy
   .rw[L];exact nd
   .rw[AG e,AG L]at nm;exact nm
 have dp:O≠p:=λe=>by rw[e,M]at N;cases N
 have out:∀b,U b=none->b∉[le,lp,lq]:=λb j z=>by
  simp only[xb,yh,AB2]at z;rcases z with z|z|z
  .rw[z,aa]at j;cases j
  .rw[z,ab]at j;cases j
  .rw[z,g3]at j;cases j
 have pM:p∉[le,lp,lq]:=λz=>by
  simp only[xb,yh,AB2]at z;rcases z with z|z|z
  .exact e1 z
  .exact L z
  .exact e3 z
 refine q _ [le,lp,lq] (λb o j z=>⟨λm=>?_,?_⟩) ⟨dx,le,lp,lq,x,[],[],[none,none,none,none],_,rfl,?_,by simp,?_,ow.new le lp lq x,?_,.nil,?_,.nil,?_,.cons trivial (.cons trivial (.cons trivial (.cons trivial .nil))),dy,O,?_,?_⟩
 .simp only[xb,yh,AB2]at m;rcases m with m|m|m
  .rw[m,nl]at z;cases z
  .rw[m]at z j;rw[k1 _ _ j z]at B;cases B
  .rw[m]at z j;rw[k2 _ _ j (k1 _ _ j z)]at n;cases n
 .rw[AG j];exact I _ _ (k3 _ _ j (k2 _ _ j (k1 _ _ j z)))
 .simp[EY,ah,ai,aj]
 .rw[As pM,AB]
 .rw[AG (x8 e1)];exact I _ _ aa
 .rw[AG (x8 L)];exact I _ _ ab
 .rw[AG (x8 e3)];exact I _ _ g3
 .rw[As (out x J),AG xp];exact af
 .rw[As (out O N),AG dp];exact ag
inductive UK(T:Txt w K mg)(vs:List V)(H:Hp)(Q:VK)(z3_:XK):Prop
 |mk (F:List Addr) (r:Addr) (s:Vbptal.State) (Mu:List Addr) (_:vs=[.ref r]) (_:Rep T F H r s Mu) (_:Ro H (Vbptal.act s .counts).2 Q)
theorem Uj(T:Txt w K mg):FB P w mg base T.Nr 1 (UK T):=by refine Ce T.Nr UA λn A j s H vs Q E B h=>?_;obtain⟨F,r,st,Mu,rfl,z,q⟩:=h;obtain⟨dx,le,lp,lq,lm,es,ps,qs,fs,R⟩:=id z;refine⟨_,(AF (AK (AZ (AA (IM T.Be (AO (pv 0) rfl)) (AA (IM T.Be (AO (pv 0) rfl)) AE))))),?_⟩;dsimp only[A0,Cx.Ck];refine⟨_,rfl,r,_,dx,_,_,rfl,R.BP,T.AM,T.AY,R.rf.Eu,le,_,rfl,.inl (Ah.of R.el),_,rfl,r,_,dx,_,_,rfl,R.BP,T.AM,T.Aq,R.rf.Sn,lp,_,rfl,.inl (Ah.of R.pl),AW (by show 2<=1000;decide),q.lst (AN.refl _) ?_⟩;rw[R.dg,R.ic];rfl
inductive LN(T:Txt w K mg)(vs:List V)(H:Hp)(Q:VK)(z3_:XK):Prop
 |mk (F:List Addr) (r:Addr) (s:Vbptal.State) (Mu:List Addr) (d:Vbptal.Call) (ln lr:Addr) (_:vs=[.ref r,vn (tag d),.ref ln,.ref lr]) (_:Rep T F H r s Mu) (_:B8 s) (_:Vbptal.inRange d=true) (_:LZ (CE.Bl Mu H) ln (nums d)) (_:LC (CE.Bl Mu H) lr (Bi d)) (_:6<=tag d) (_:tag d<=10) (_:Wr T F H r Mu (Vbptal.act s d).1 (Vbptal.act s d).2 Q)
theorem MH(T:Txt w K mg):FB P w mg base T.F8 7 (LN T):=by
 refine Ce T.F8 Ly λaa A M s H vs Q E J h=>?_;obtain⟨F,r,st,Mu,d,z,lr,rfl,I,ok,B,hn,hw,ht,ab,q⟩:=h;refine⟨_,(AD (Ab (CA A5 (pv 1) AL) (AF (AK (CI J (Y6 T) T.bj (AA (pv 0) (AA (Cv (pv 2) AL) (AA (Cv (pv 3) AL) (AA (Cv (pv 3) AL) AE))))))) AQ) (AD (Ab (CA A5 (pv 1) AL) (AF (AK (CI J (Z3 T) T.eH (AA (pv 0) (AA (Cv (pv 2) AL) (AA (Cv (pv 2) AL) (AA (Cv (pv 2) AL) AE))))))) AQ) (AD (Ab (CA A5 (pv 1) AL) (AF (AK (CI J (Up T) T.WD (AA (pv 0) (AA (Cv (pv 2) AL) (AA (Cv (pv 2) AL) (AA (Cv (pv 2) AL) (AA (Cv (pv 2) AL) AE)))))))) AQ) (AD (Ab (CA A5 (pv 1) AL) (AF (AK (CI J (Xy T) T.b9 (AA (pv 0) (AA (Cv (pv 2) AL) (AA (Cv (pv 2) AL) AE)))))) AQ) (AF (AK (CI J (Wf T) T.Yq (AA (pv 0) (AA (Cv (pv 2) AL) AE))))))))),?_⟩;dsimp only[A0,Cx.Ck];have n:LZ H z (nums d):=hn.mono (Af _ _);refine AU (decide (tag d=6)) (λQ q=>⟨_,rfl,rfl,_,rfl,IE (b:=6) q⟩) (λh=>?_) (λh0=>?_)
 .obtain⟨dy,N,L,rfl⟩:=uP (xI h);have hi:=xT.mp B;have hj:=xT.mp hi.2;have hk:=xT.mp hj.2;have hl:=xT.mp hk.2;obtain⟨dy,rfl,_⟩:=Aj (k:=999) hi.1;obtain⟨N,rfl,_⟩:=O5 (k:=5) hj.1;obtain⟨L,rfl,_⟩:=O5 (k:=15) hl.2;obtain⟨as,b,g1,g2,g3⟩:=hw.get (i:=0) (l:=Vbptal.ints N) rfl;obtain⟨ae,b',O,U,Y⟩:=hw.get (i:=1) (l:=Vbptal.ints L) rfl;have h3:L.length<=3:=by have:=xI hl.1;rwa[A9]at this
  exact⟨_,rfl,_,rfl,z,_,_,_,rfl,rfl,Ah.of n,at_of (j:=0) rfl rfl,_,rfl,lr,_,_,_,rfl,rfl,Ah.of (Af _ _ _ _ g1),at_of (j:=0) rfl g2,_,rfl,lr,_,_,_,rfl,rfl,Ah.of (Af _ _ _ _ O),at_of (j:=1) rfl U,F,r,st,Mu,dy,b,b',N,L,rfl,I,ok,g3.n,Y.n,h3,q⟩
 refine AU (decide (tag d=7)) (λQ q=>⟨_,rfl,rfl,_,rfl,IE (b:=7) q⟩) (λh=>?_) (λh1=>?_)
 .obtain⟨p,e,c,rfl⟩:=tJ (xI h) B;exact⟨_,rfl,_,rfl,z,_,_,_,rfl,rfl,Ah.of n,at_of (j:=0) rfl rfl,_,rfl,z,_,_,_,rfl,rfl,Ah.of n,at_of (j:=1) rfl rfl,_,rfl,z,_,_,_,rfl,rfl,Ah.of n,at_of (j:=2) rfl rfl,F,r,st,Mu,p,e,c,rfl,I,ok,q⟩
 refine AU (decide (tag d=8)) (λQ q=>⟨_,rfl,rfl,_,rfl,IE (b:=8) q⟩) (λh=>?_) (λh2=>?_)
 .obtain⟨p,i,e,c,rfl⟩:=tG (xI h) B;exact⟨_,rfl,_,rfl,z,_,_,_,rfl,rfl,Ah.of n,at_of (j:=0) rfl rfl,_,rfl,z,_,_,_,rfl,rfl,Ah.of n,at_of (j:=1) rfl rfl,_,rfl,z,_,_,_,rfl,rfl,Ah.of n,at_of (j:=2) rfl rfl,_,rfl,z,_,_,_,rfl,rfl,Ah.of n,at_of (j:=3) rfl rfl,F,r,st,Mu,p,i,e,c,rfl,I,ok,q⟩
 refine AU (decide (tag d=9)) (λQ q=>⟨_,rfl,rfl,_,rfl,IE (b:=9) q⟩) (λh=>?_) (λh3=>?_)
 .obtain⟨p,i,rfl⟩:=tf (xI h) B;exact⟨_,rfl,_,rfl,z,_,_,_,rfl,rfl,Ah.of n,at_of (j:=0) rfl rfl,_,rfl,z,_,_,_,rfl,rfl,Ah.of n,at_of (j:=1) rfl rfl,F,r,st,Mu,p,i,rfl,I,ok,q⟩
 have h5:tag d=10:=by have:=xc h0;have:=xc h1;have:=xc h2;have:=xc h3;lia
 obtain⟨p,rfl⟩:=qi h5 B;exact⟨_,rfl,_,rfl,z,_,_,_,rfl,rfl,Ah.of n,at_of (j:=0) rfl rfl,F,r,st,Mu,p,rfl,I,ok,q.rd I (Ww λ_=>rfl)⟩
end
theorem lE(s:Sg):decide (V.str (kindS s)=V.str "-")=decide (s=.not):=by cases s<;> kernel_rfl
theorem k9(s:Sg):decide (V.str (kindS s)=V.str "(")=decide (s=.opn):=by cases s<;> kernel_rfl
theorem pT(s:Sg):decide (V.str (kindS s)=V.str "&")=decide (s=.amp):=by cases s<;> kernel_rfl
theorem pU(s:Sg):decide (V.str (kindS s)=V.str "|")=decide (s=.bar):=by cases s<;> kernel_rfl
theorem tE(s:Sg):decide (V.str (kindS s)=V.str ")")=decide (s=.cls):=by cases s<;> kernel_rfl
theorem qT(s:Sg):rJ (V.str (kindS s)) [.str "topics",.str "#",.str "<",.str ">"]=leaf s:=by cases s<;> kernel_rfl
theorem uX(h:leaf s=false):Kt s=0:=by cases s<;> first|rfl|cases h
structure rK(fs:List (Str×V))(lp lw:Addr)(b:Bool):Prop where
 len:fs.length<=3
 dJ:fs.lookup ("pieces":Str)=some (.ref lp)
 wt:fs.lookup ("waiting":Str)=some (.ref lw)
 en:fs.lookup ("ended":Str)=some (.bl b)
 n1:fs.lookup ("takes":Str)=none
 n2:fs.lookup ("takes_behind":Str)=none
 n3:fs.lookup ("end_query":Str)=none
 n4:fs.lookup ("is_whole":Str)=none
theorem rK.new(lp lw:Addr)(b:Bool):rK (Ad "ended" (.bl b) (Ad "waiting" (.ref lw) (Ad "pieces" (.ref lp) []))) lp lw b:=by
 refine⟨?_,?_,?_,?_,?_,?_,?_,?_⟩
 .have h1:=Ar "pieces" (V.ref lp) [];have h2:=Ar "waiting" (V.ref lw) (Ad "pieces" (V.ref lp) []);have j:=Ar "ended" (V.bl b) (Ad "waiting" (V.ref lw) (Ad "pieces" (V.ref lp) []));simp at h1;lia
 .rw[AJ,xJ Dk,AJ,xJ Dk,AJ,xQ rfl]
 .rw[AJ,xJ Dk,AJ,xQ rfl]
 .rw[AJ,xQ rfl]
 all_goals rw[AJ,xJ Dk,AJ,xJ Dk,AJ,xJ Dk];rfl
theorem rK.again(h:rK fs lp lw b)(c:Bool):rK (Ad "ended" (.bl c) fs) lp lw c:=by
 refine⟨?_,?_,?_,?_,?_,?_,?_,?_⟩
 .rw[Oy h.en];exact h.len
 .rw[AJ,xJ Dk];exact h.dJ
 .rw[AJ,xJ Dk];exact h.wt
 .rw[AJ,xQ rfl]
 .rw[AJ,xJ Dk];exact h.n1
 .rw[AJ,xJ Dk];exact h.n2
 .rw[AJ,xJ Dk];exact h.n3
 .rw[AJ,xJ Dk];exact h.n4
def wV(W:List Sg):List V:=(W.map λs=>V.str (kindS s)).reverse
theorem GS(s:Sg)(W:List Sg):wV (s::W)=wV W++[.str (kindS s)]:=by unfold wV;rw[yE,List.reverse_cons]
theorem OL(W:List Sg):(wV W).length=W.length:=by unfold wV;rw[zg,xH]
structure JP(C:Addr)(H:Hp)(a dx lp lw:Addr)(m:Maker)(fs:List (Str×V))(as:List Addr):Prop where
 ob:H a=some (.ins C dx fs)
 mf:rK fs lp lw m.ended
 pl:H lp=some (.lst (as.map V.ref))
 dJ:Paired (RJ H) as m.pieces
 wl:H lw=some (.lst (wV m.wait))
 ne:lp≠lw
 wt:∀s∈m.wait,leaf s=false
inductive oz(C:Addr)(H:Hp)(a dx lp lw:Addr)(m:Maker):Prop
 |mk (fs as) (_:JP C H a dx lp lw m fs as)
def fY(H H':Hp)(a lp lw:Addr):Prop:=∀b o,b≠a->b≠lp->b≠lw->H b=some o->H' b=some o
theorem fY.refl(H:Hp)(a lp lw:Addr):fY H H a lp lw:=λ_ _ _ _ _ h=>h
theorem fY.trans(h:fY H H' a lp lw)(h2:fY H' j a lp lw):fY H j a lp lw:=λb o n q z e=>h2 b o n q z (h b o n q z e)
section
variable{C:Addr}{H:Hp}{a dx lp lw:Addr}{m:Maker}{fs:List (Str×V)}{as:List Addr}
theorem JP.al(h:JP C H a dx lp lw m fs as):a≠lp:=Dv h.ob h.pl (by intro z;cases z)
theorem JP.aw(h:JP C H a dx lp lw m fs as):a≠lw:=Dv h.ob h.wl (by intro z;cases z)
theorem JP.pc(h:JP C H a dx lp lw m fs as)(j:RJ H x s):x≠a/\x≠lp/\x≠lw:=
 ⟨Dv j h.ob (by intro z;cases z),Dv j h.pl (by intro z;cases z),Dv j h.wl (by intro z;cases z)⟩
theorem JP.mono(h:JP C H a dx lp lw m fs as)(s:AN H H'):JP C H' a dx lp lw m fs as:=⟨s _ _ h.ob,h.mf,s _ _ h.pl,Paired.BO (λ_ _ z=>s _ _ z) h.dJ,s _ _ h.wl,h.ne,h.wt⟩
theorem JP.pQ(h:JP C H a dx lp lw m fs as){p:Addr}{s:Sg}{W:List Sg}{b:Bool}{H1:Hp}(f:fY H H1 a lp lw)(j:H1 a=some (.ins C dx fs))(B:b=m.ended)(n:H1 lw=some (.lst (wV W)))(np:H1 p=none)(I:∀s∈W,leaf s=false)(J:H1 lp=some (.lst (as.map V.ref))):
  JP C (upd (upd H1 p (.tup [.str (kindS s),vn (Kt s)])) lp (.lst (as.map V.ref++[.ref p]))) a dx lp lw ⟨m.pieces++[s],W,b⟩ fs (as++[p]):=by
 have L:a≠p:=AH j np;have pl:lp≠p:=AH J np;have M:lw≠p:=AH n np;subst B;refine⟨?_,h.mf,?_,?_,?_,h.ne,I⟩
 .rw[AG h.al,AG L];exact j
 .rw[AB,xX];rfl
 .refine BR (Paired.BO (λx s z=>?_) h.dJ) ?_
  .have q:=f _ _ (h.pc z).1 (h.pc z).2.1 (h.pc z).2.2 z;show upd _ lp _ x=_;rw[AG (h.pc z).2.1,AG (AH q np)];exact q
  .show upd _ lp _ p=_;rw[AG (x8 pl),AB]
 .rw[AG (x8 h.ne),AG M];exact n
theorem JP.ends(h:JP C H a dx lp lw m fs as)(b:Bool):JP C (upd H a (.ins C dx (Ad "ended" (.bl b) fs))) a dx lp lw ⟨m.pieces,m.wait,b⟩ (Ad "ended" (.bl b) fs) as:=by
 refine⟨AB,h.mf.again b,?_,?_,?_,h.ne,h.wt⟩
 .rw[AG (x8 h.al)];exact h.pl
 .exact Paired.BO (λx s z=>(AG (h.pc z).1).trans z) h.dJ
 .rw[AG (x8 h.aw)];exact h.wl
theorem JP.kW(h:JP C H a dx lp lw m fs as){W:List Sg}(j:∀s∈W,leaf s=false):JP C (upd H lw (.lst (wV W))) a dx lp lw ⟨m.pieces,W,m.ended⟩ fs as:=by
 refine⟨?_,h.mf,?_,?_,AB,h.ne,j⟩
 .rw[AG h.aw];exact h.ob
 .rw[AG h.ne];exact h.pl
 .exact Paired.BO (λx s z=>(AG (h.pc z).2.2).trans z) h.dJ
end
theorem cN:∀(W P:List Sg),(Ql P W).1.length+(Ql P W).2.length=P.length+W.length
 |[],P=>rfl
 |s::W,P=>by
  by_cases h:s=.not
  .subst h;rw[bt,cN W];simp;lia
  .have:Ql P (s::W)=(P,s::W):=by cases s<;> first|rfl|exact absurd rfl h
   rw[this]
theorem jZ{P:List Sg}{s:Sg}{W:List Sg}(h:s≠ .not):Ql P (s::W)=(P,s::W):=by cases s<;> first|rfl|exact absurd rfl h
theorem ko{b c:Bool}{R:Bool->Prop}{S:Prop}(h:b=true->S)(h2:b=false->R false):if b=true then S else R false:=by
 cases b with
 |true=>exact h rfl
 |false=>exact h2 rfl
section
variable{P:Program}{w:World}{K:PySem.W.Frag}{mg:Str->Option Value}{base:Heap}
inductive Oc(C:Addr)(vs:List V)(H:Hp)(Q:VK)(z3_:XK):Prop
 |mk (p dx:Addr) (_:vs=[.ref p]) (_:H p=some (.ins C dx [])) (_:∀H' lp lw,(∀b o,b≠p->H b=some o->H' b=some o)->H lp=none->H lw=none->oz C H' p dx lp lw ⟨[],[],false⟩->Q .non H')
theorem OG(T:Txt w K mg):FB P w mg base T.Hv 1 (Oc T.Ai):=by
 refine Ce T.Hv Oa λO A J s H vs Q E U h=>?_;obtain⟨p,dx,rfl,L,q⟩:=h;refine⟨_,(AD (CG (pv 0) (AZ AE) rfl) (AD (CG (pv 0) (AZ AE) rfl) (AF (CG (pv 0) DN rfl)))),?_⟩;dsimp only[A0,Cx.Ck];refine EA ⟨xi _,λlp nl=>⟨_,rfl,p,_,dx,[],rfl,by rw[AG (AH L nl)];exact L,T.Ac,T.Cp,(by show 0<1000;decide),?_⟩⟩;have e1:p≠lp:=AH L nl;have B:∀b o,b≠p->H b=some o->(upd (upd H lp (.lst [])) p (.ins T.Ai dx (Ad "pieces" (.ref lp) []))) b=some o:=λb o n z=>by rw[AG n,AG (AH z nl)];exact z
 have g1:(upd (upd H lp (.lst [])) p (.ins T.Ai dx (Ad "pieces" (.ref lp) []))) lp=some (.lst []):=by rw[AG (x8 e1),AB]
 have I:(upd (upd H lp (.lst [])) p (.ins T.Ai dx (Ad "pieces" (.ref lp) []))) p=some (.ins T.Ai dx (Ad "pieces" (.ref lp) [])):=AB;generalize upd (upd H lp (.lst [])) p (.ins T.Ai dx (Ad "pieces" (.ref lp) []))=H1 at B g1 I⊢;refine EA ⟨xi _,λlw j=>⟨_,rfl,p,_,dx,_,rfl,by rw[AG (AH I j)];exact I,T.Ac,T.Al,put1 _ _,?_⟩⟩;have M:p≠lw:=AH I j;have N:lp≠lw:=AH g1 j;refine⟨_,rfl,p,_,dx,_,rfl,AB,T.Ac,T.Bo,put2 _ _ _ _,?_⟩;rw[CD];refine q _ lp lw (λb o n z=>?_) nl ?_ ⟨_,[],AB,rK.new lp lw false,?_,.nil,?_,N,by simp⟩
 .rw[AG n,AG (AH (B b o n z) j)];exact B b o n z
 .cases z:H lw with
  |none=>rfl
  |some o=>rw[B lw o (x8 M) z]at j;cases j
 .rw[AG (x8 e1),AG N];exact g1
 .rw[AG (x8 M),AB];rfl
inductive JC(C:Addr)(vs:List V)(H:Hp)(Q:VK)(z3_:XK):Prop
 |mk (a dx lp lw:Addr) (m:Maker) (s:Sg) (_:vs=[.ref a,.str (kindS s),vn (Kt s)]) (_:oz C H a dx lp lw m) (_:m.pieces.length+m.wait.length<=1000) (_:∀H',fY H H' a lp lw->oz C H' a dx lp lw (Kk (m.pieces++[s]) m.wait)->Q .non H')
abbrev vk(T:Txt w K mg)(a dx lp lw:Addr)(m:Maker)(q:Sg)(fs:List (Str×V))(H:Hp):Nat->L2.St->Hp->Prop:=λn σ H'=>σ=[some (.ref a),some (.str (kindS q)),some (vn (Kt q))]/\∃(z j:List Sg)(B:List Addr),n=j.length/\fY H H' a lp lw/\Ql z j=Ql (m.pieces++[q]) m.wait/\z.length+j.length=m.pieces.length+m.wait.length+1/\JP T.Ai H' a dx lp lw ⟨z,j,m.ended⟩ fs B
theorem EV(T:Txt w K mg):FB P w mg base T.Ep 1 (JC T.Ai):=by
 refine Ce T.Ep IX λag A aa s H vs Q E hr h=>?_;obtain⟨a,dx,lp,lw,m,J,rfl,⟨fs,as,M⟩,af,q⟩:=h;refine⟨_,(AD (A3 (Cn xa xw xx BD (AO (pv 0) rfl) (AA (FI (AA (pv 1) (AA (pv 2) AE))) AE))) (AD (MK xo (PW.pt (J2 (CA HV (IM T.Be (AO (pv 0) rfl)) AL) (GX (CA A5 (Cv (AO (pv 0) rfl) (Ln Gv AL)) (gs T.mB))))) (AF (A3 (Cn xa xw xx BD (AO (pv 0) rfl) (AA (FI (AA (OY xa zD zE Oh (AO (pv 0) rfl)) (AA AL AE))) AE))))) (AF (CG (pv 0) DN rfl)))),?_⟩;dsimp only[A0,Cx.Ck];have ab:as.length=m.pieces.length:=AR M.dJ;refine D3 ⟨_,rfl,a,_,dx,_,_,rfl,M.ob,T.Ac,T.Cp,M.mf.dJ,.inl ⟨rfl,_,Ah.of M.pl⟩,_,rfl,_,rfl,AW (by show 2<=1000;decide),λp np=>⟨lp,_,_,rfl,rfl,by rw[AG (AH M.pl np)];exact M.pl,?_,?_⟩⟩
 .rw[xH,ab];exact Az Om
 have M1:=M.pQ (s:=J) (fY.refl H a lp lw) M.ob rfl M.wl np M.wt M.pl;have f1:fY H (upd (upd H p (.tup [.str (kindS J),vn (Kt J)])) lp (.lst (as.map V.ref++[.ref p]))) a lp lw:=λb o h1 h2 N z=>by rw[AG h2,AG (AH z np)];exact z
 generalize upd (upd H p (.tup [.str (kindS J),vn (Kt J)])) lp (.lst (as.map V.ref++[.ref p]))=H1 at M1 f1⊢;refine⟨(vk T a dx lp lw m J fs H),⟨_,rfl,_,_,_,rfl,f1,rfl,by simp;lia,M1⟩,?_⟩;rintro n σ H2 ⟨rfl,P',W',L,rfl,f2,j,O,M2⟩;refine⟨_,rfl,a,_,dx,_,_,rfl,M2.ob,T.Ac,T.Al,M2.mf.wt,lw,_,rfl,.inl (Ah.of M2.wl),_,_,rfl,rfl,_,rfl,?_⟩;rw[OL];cases W' with
 |nil=>
  rw[xJ (by simp)];refine ED ⟨_,rfl,a,_,dx,_,rfl,M2.ob,T.Ac,T.Bo,by have:=M2.mf.len;lia,?_⟩;refine q _ (f2.trans λb o h1 h2 N z=>by rw[AG h1];exact z) ⟨Ad "ended" (.bl true) fs,L,?_⟩;have:=M2.ends true;have e:Kk (m.pieces++[J]) m.wait=⟨P',[],true⟩:=by unfold Kk;rw[<-j];rfl
  rw[e];exact this
 |cons s1 B=>
  rw[xQ (by simp)];refine⟨_,rfl,a,_,dx,_,_,rfl,M2.ob,T.Ac,T.Al,M2.mf.wt,_,rfl,lw,_,_,_,rfl,rfl,Ah.of M2.wl,by show ji (wV (s1::B)) (-1)=_;rw[GS];exact QV _ _,rfl,_,rfl,?_⟩;rw[lE];by_cases U:s1=.not
  .subst U;refine EG ⟨_,λ_ _ h=>h,?_⟩;have Y:L.length=P'.length:=AR M2.dJ;refine⟨_,rfl,a,_,dx,_,_,rfl,M2.ob,T.Ac,T.Cp,M2.mf.dJ,.inl ⟨rfl,_,Ah.of M2.pl⟩,_,rfl,a,_,dx,_,_,rfl,M2.ob,T.Ac,T.Al,M2.mf.wt,.inl ⟨rfl,_,Ah.of M2.wl⟩,lw,_,.str (kindS .not),rfl,rfl,M2.wl,?_,AW (by show 2<=1000;decide),λp2 I=>?_⟩
   .show(wV (.not::B))[(wV (.not::B)).length - 1]?=_;rw[GS,xS];simp
   have ew:(wV (.not::B)).dropLast=wV B:=by rw[GS,yQ]
   rw[ew]at I⊢;have ae:lp≠p2:=AH (H:=upd H2 lw (.lst (wV B))) (by rw[AG M2.ne];exact M2.pl) I;have f3:fY H2 (upd H2 lw (.lst (wV B))) a lp lw:=λb o h1 h2 N z=>by rw[AG N];exact z
   have M3:=M2.pQ (s:=.not) f3 (by rw[AG M2.aw];exact M2.ob) rfl AB I (λs U=>M2.wt s (xY _ U)) (by rw[AG M2.ne];exact M2.pl);refine⟨lp,_,_,rfl,rfl,by rw[AG ae,AG M2.ne];exact M2.pl,?_,B.length,by simp,rfl,_,B,_,rfl,?_,?_,?_,M3⟩
   .rw[xH,Y];exact Az (by simp at O;lia)
   .exact f2.trans (f3.trans λb o h1 h2 N z=>by rw[AG h2,AG (AH z I)];exact z)
   .rw[<-j,bt]
   .simp at O⊢;lia
  .rw[xV U];refine ED ⟨_,rfl,a,_,dx,_,rfl,M2.ob,T.Ac,T.Bo,by have:=M2.mf.len;lia,?_⟩;refine q _ (f2.trans λb o h1 h2 N z=>by rw[AG h1];exact z) ⟨Ad "ended" (.bl true) fs,L,?_⟩;have:=M2.ends true;have e:Kk (m.pieces++[J]) m.wait=⟨P',s1::B,true⟩:=by unfold Kk;rw[<-j,jZ U]
   rw[e];exact this
theorem ba(P W:List Sg):(Kk P W).pieces.length+(Kk P W).wait.length=P.length+W.length:=cN W P
inductive HK(C:Addr)(vs:List V)(H:Hp)(Q:VK)(z3_:XK):Prop
 |mk (a dx lp lw:Addr) (m:Maker) (s:Sg) (_:vs=[.ref a,.str (kindS s)]) (_:oz C H a dx lp lw m) (_:m.ended=true) (_:m.pieces.length+m.wait.length<=1000) (_:(behind m s=none->Q (.bl false) H)) (_:(∀m',behind m s=some m'->∀H',fY H H' a lp lw->oz C H' a dx lp lw m'->Q (.bl true) H'))
theorem HF(T:Txt w K mg):FB P w mg base T.Dt 2 (HK T.Ai):=by
 refine Ce T.Dt Dg λab A O s H vs Q E hr h=>?_;obtain⟨a,dx,lp,lw,⟨J,W0,U⟩,B,rfl,⟨fs,as,M⟩,ae,L,qn,qs⟩:=h;refine⟨_,(AD (Ab (CA A5 (IM T.Be (AO (pv 0) rfl)) AL) (AF (AK DN)) AQ) (AD (B6 2 Dg.nd (Cv (AO (pv 0) rfl) (Ln Gv AL))) (AD (Ab (PW.pt (J2 (CA A5 (pv 2) (gs T.Qu)) (GX (PW.pt (Ds (CA A5 (pv 1) (gs T.m7)) (DC (CA A5 (pv 1) (gs T.bO)))))))) (AD (lU (pv 1) (kf (AO (pv 0) rfl) (Ln Gv AL) set_list)) (AD (CG (pv 0) DN rfl) (AF (AK DN)))) AQ) (AD (Ab (PW.pt (J2 (CA IA (pv 2) (gs T.Qu)) (GX (CA A5 (pv 1) (gs T.WB))))) (AD (A3 (HN hr (pv 0) T.Ac T.EX (EV T) (AA (OY xa zD zE Oh (AO (pv 0) rfl)) (AA AL AE)))) (AF (AK DN))) AQ) (AF (AK DN)))))),?_⟩;dsimp only[A0,Cx.Ck];refine AU (decide (W0.length=0)) (λQ q=>⟨_,rfl,a,_,dx,_,_,rfl,M.ob,T.Ac,T.Al,M.mf.wt,lw,_,rfl,.inl (Ah.of M.wl),rfl,_,rfl,by rw[OL];exact IE (b:=0) q⟩) (λh=>?_) (λh=>?_)
 .have:=yR.mp (xI h);subst this;exact qn rfl
 cases W0 with
 |nil=>cases h
 |cons n j=>
  have N:∀s∈j,leaf s=false:=λs Y=>M.wt s (xY _ Y);refine AS ⟨_,rfl,a,_,dx,_,_,rfl,M.ob,T.Ac,T.Al,M.mf.wt,_,rfl,lw,_,_,_,rfl,rfl,Ah.of M.wl,by show ji (wV (n::j)) (-1)=_;rw[GS];exact QV _ _,?_⟩;refine AU (decide (n=.opn) && (decide (B=.amp)|| decide (B=.bar))) (λQ q=>⟨_,rfl,rfl,_,rfl,?_⟩) (λh=>?_) (λh=>?_)
  .rw[k9];refine ko (R:=λb=>Q b H) (c:=true) (λh=>?_) (λh=>?_)
   .rw[h,yP]at q;refine⟨_,rfl,rfl,_,rfl,?_⟩;rw[pT];refine N4 (R:=λb=>Q b H) (λh=>?_) (λh=>?_)
    .rw[h]at q;exact q
    .rw[h,yo]at q;refine⟨_,rfl,rfl,_,rfl,?_⟩;rw[pU];exact q
   .rw[h]at q;exact q
  .rw[x4,AAc]at h;have h1:=xI h.1;have h2:B=.amp\/B=.bar:=h.2.imp xI xI;subst h1;have hb:behind ⟨J,.opn::j,U⟩ B=some ⟨J,B::j,false⟩:=by
    unfold behind;dsimp only;rw[xQ rfl,xQ h2]
   have aa:leaf B=false:=by rcases h2 with e|e<;> subst e<;> rfl
   have ix:f6 (wV (.opn::j)).length (-1)=some j.length:=by rw[OL];show f6 (j.length+1) (-1)=_;unfold f6;simp;lia
   have es:(wV (.opn::j)).set j.length (.str (kindS B))=wV (B::j):=by rw[GS,GS,<-OL j,List.set_append_right _ _ (xZ _)];simp
   refine(show YZ _ _ _ _ _ from⟨_,rfl,_,rfl,a,_,dx,_,_,rfl,M.ob,T.Ac,T.Al,M.mf.wt,_,rfl,lw,_,_,j.length,rfl,rfl,M.wl,ix,?_⟩);rw[es];have M1:=M.kW (W:=B::j) (λs Y=>by
    rcases xb.mp Y with e|e
    .subst e;exact aa
    .exact N s e)
   refine⟨_,rfl,a,_,dx,_,rfl,M1.ob,T.Ac,T.Bo,by have:=M.mf.len;lia,?_⟩;refine qs _ hb _ (λb o h1 h2 I z=>?_) ⟨_,_,M1.ends false⟩;rw[AG h1,AG I];exact z
  refine AU (!decide (n=.opn) && decide (B=.cls)) (λQ q=>⟨_,rfl,rfl,_,rfl,?_⟩) (λh2=>?_) (λh2=>?_)
  .rw[k9];refine ko (R:=λb=>Q b H) (c:=true) (λh=>?_) (λh=>?_)
   .rw[h,yP]at q;refine⟨_,rfl,rfl,_,rfl,?_⟩;rw[tE];exact q
   .rw[h]at q;exact q
  .rw[x4]at h2;have I:n≠ .opn:=by simpa using h2.1
   have h4:=xI h2.2;subst h4;have hb:behind ⟨J,n::j,U⟩ .cls=some (Kk (J++[n]) j):=by unfold behind;dsimp only;rw[xJ I,xQ rfl]
   have ew:(wV (n::j)).dropLast=wV j:=by rw[GS,yQ]
   have v1:Kt n=0:=uX (M.wt n (xl ..));refine D3 ⟨_,rfl,a,dx,_,rfl,M.ob,M.mf.n3,_,rfl,a,_,dx,_,_,rfl,M.ob,T.Ac,T.Al,M.mf.wt,.inl ⟨rfl,_,Ah.of M.wl⟩,lw,_,.str (kindS n),rfl,rfl,M.wl,?_,?_⟩
   .show(wV (n::j))[(wV (n::j)).length - 1]?=_;rw[GS,xS];simp
   rw[ew];refine⟨a,dx,lp,lw,⟨J,j,U⟩,n,by rw[v1];rfl,⟨_,_,M.kW N⟩,by simp at L⊢;lia,λH2 f2 M2=>?_⟩;refine qs _ hb H2 (λb o h1 h2 I z=>f2 b o h1 h2 I (by rw[AG I];exact z)) M2
  .refine qn ?_;unfold behind;dsimp only;by_cases e:n=.opn
   .rw[xQ e,xJ];rintro(z|z)
    .rw[e,z]at h;cases h
    .rw[e,z]at h;cases h
   .rw[xJ e,xJ];intro z;rw[xV e,z]at h2;cases h2
inductive My(C:Addr)(vs:List V)(H:Hp)(Q:VK)(z3_:XK):Prop
 |mk (a dx lp lw:Addr) (m:Maker) (s:Sg) (_:vs=[.ref a,.str (kindS s),vn (Kt s)]) (_:oz C H a dx lp lw m) (_:m.pieces.length+m.wait.length<=1000) (_:(takes m s=none->∀H',AN H H'->Q (.bl false) H')) (_:(∀m',takes m s=some m'->∀H',fY H H' a lp lw->oz C H' a dx lp lw m'->Q (.bl true) H'))
theorem Ml(T:Txt w K mg):FB P w mg base T.G2 3 (My T.Ai):=by
 refine Ce T.G2 Mz λab A N s H vs Q E hr h=>?_;obtain⟨a,dx,lp,lw,⟨J,n,b0⟩,j,rfl,⟨fs,as,M⟩,B,qn,qs⟩:=h;refine⟨_,(AD (Ab (A7 (AO (pv 0) rfl)) (AF (AK (HN hr (pv 0) T.Ac T.Gi (HF T) (AA (pv 1) AE)))) AQ) (AD (Ab (PW.pt (Ds (CA A5 (pv 1) (gs T.mB)) (DC (CA A5 (pv 1) (gs T.Qu))))) (AD (A3 (Cn xa xw xx BD (AO (pv 0) rfl) (AA (pv 1) AE))) (AF (AK DN))) AQ) (AD (Ab (PW.pt (Ds (TR (show Kx _ _ (sg K true)from J3) (pv 1) (FI (AA (gs T.O6) (AA (gs T.fS) (AA (gs T.ZT) (AA (gs T.hJ) AE))))) rfl) (DC (CA pq (IM T.Be (AO (pv 0) rfl)) (gi T.jc))))) (AF (AK DN)) AQ) (AD (A3 (HN hr (pv 0) T.Ac T.EX (EV T) (AA (pv 1) (AA (pv 2) AE)))) (AF (AK DN)))))),?_⟩;dsimp only[A0,Cx.Ck];refine AU b0 (λQ q=>⟨_,rfl,a,_,dx,_,_,rfl,M.ob,T.Ac,T.Bo,M.mf.en,_,rfl,q⟩) (λh=>?_) (λh=>?_)
 .subst h;exact⟨_,rfl,a,dx,_,rfl,M.ob,M.mf.n2,_,rfl,a,dx,lp,lw,⟨J,n,true⟩,j,rfl,⟨fs,as,M⟩,rfl,B,λhb=>qn hb H (AN.refl _),λm' O=>qs m' O⟩
 subst h;refine AU (decide (j=.not)|| decide (j=.opn)) (λQ q=>⟨_,rfl,rfl,_,rfl,?_⟩) (λh=>?_) (λh=>?_)
 .rw[lE];refine N4 (R:=λb=>Q b H) (λh=>?_) (λh=>?_)
  .rw[h]at q;exact q
  .rw[h,yo]at q;refine⟨_,rfl,rfl,_,rfl,?_⟩;rw[k9];exact q
 .have h2:j=.not\/j=.opn:=(zN.mp h).imp xI xI;have U:leaf j=false:=by rcases h2 with e|e<;> subst e<;> rfl
  have Y:takes ⟨J,n,false⟩ j=some ⟨J,j::n,false⟩:=by unfold takes;rw[xJ (by simp),xQ h2]
  refine D3 ⟨_,rfl,a,_,dx,_,_,rfl,M.ob,T.Ac,T.Al,M.mf.wt,.inl ⟨rfl,_,Ah.of M.wl⟩,_,rfl,lw,_,_,rfl,rfl,M.wl,?_,?_⟩
  .rw[OL];exact Az (by dsimp only at B⊢;lia)
  rw[show wV n++[V.str (kindS j)]=wV (j::n)from(GS _ _).symm];refine qs _ Y _ (λb o h1 h2 h3 z=>by rw[AG h3];exact z) ⟨_,_,M.kW (W:=j::n) λs hs=>?_⟩;rcases xb.mp hs with e|e
  .subst e;exact U
  .exact M.wt s e
 have L:¬(j=.not\/j=.opn):=by
  rw[yU]at h;rintro(e|e)
  .exact xc h.1 e
  .exact xc h.2 e
 refine Iq (!leaf j|| decide (10<=n.length)) (λQ q=>⟨_,rfl,AW (by show 4<=1000;decide),λp np=>?_⟩) (λh=>?_) (λh=>?_)
 .refine⟨p,_,rfl,.inr (Cd.of AB),rfl,rfl,_,rfl,?_⟩;rw[qT];have I:AN H (upd H p (.tup [.str "topics",.str "#",.str "<",.str ">"])):=AI np;refine N4 (R:=λb=>Q b _) (b:= !leaf j) (λh=>?_) (λh=>?_)
  .have:=q _ I;rw[h]at this;exact this
  .rw[h,yo]at q;refine⟨_,rfl,a,_,dx,_,_,rfl,I _ _ M.ob,T.Ac,T.Al,M.mf.wt,lw,_,rfl,.inl (Ah.of (I _ _ M.wl)),_,_,rfl,rfl,_,rfl,?_⟩;rw[OL];have aa:decide (((n.length:Nat):Int)>=10)=decide (10<=n.length):=by
    by_cases z:10<=n.length
    .rw[xR z,xR Om]
    .rw[xV z,xV Om]
   have:=q _ I;rw[<-aa]at this;exact this
 .intro H1 I;refine qn ?_ H1 I;unfold takes;rw[xJ (by simp),xJ L,xQ];rcases zN.mp h with z|z
  .exact .inl (by simpa using z)
  .exact .inr (xI z)
 .intro H1 I;rw[yU]at h;have Y:takes ⟨J,n,false⟩ j=some (Kk (J++[j]) n):=by
   unfold takes;rw[xJ (by simp),xJ L,xJ];rintro(z|z)
   .rw[z]at h;cases h.1
   .exact xc h.2 z
  have M1:=M.mono I;refine D3 ⟨_,rfl,a,dx,_,rfl,M1.ob,M.mf.n3,_,rfl,_,rfl,a,dx,lp,lw,⟨J,n,false⟩,j,rfl,⟨_,_,M1⟩,B,λH2 f2 M2=>?_⟩;exact qs _ Y H2 (λb o h1 h2 h3 z=>f2 b o h1 h2 h3 (I _ _ z)) M2
inductive Jr(C:Addr)(vs:List V)(H:Hp)(Q:VK)(z3_:XK):Prop
 |mk (a dx lp lw:Addr) (m:Maker) (_:vs=[.ref a]) (_:oz C H a dx lp lw m) (_:Q (.bl (whole m)) H)
theorem J8(T:Txt w K mg):FB P w mg base T.Es 1 (Jr T.Ai):=by
 refine Ce T.Es Jw λn A j s H vs Q E I h=>?_;obtain⟨a,dx,lp,lw,⟨J,z,B⟩,rfl,⟨fs,as,M⟩,q⟩:=h;refine⟨_,(AF (AK (kD (AO (pv 0) rfl) (de (Eh A5 (IM T.Be (AO (pv 0) rfl)) AL (G5 _)))))),?_⟩;dsimp only[A0,Cx.Ck];refine⟨_,rfl,a,_,dx,_,_,rfl,M.ob,T.Ac,T.Bo,M.mf.en,_,rfl,?_⟩;unfold whole at q;dsimp only at q⊢;cases B with
 |false=>exact ED q
 |true=>rw[yP]at q;refine EG ⟨_,rfl,a,_,dx,_,_,rfl,M.ob,T.Ac,T.Al,M.mf.wt,lw,_,rfl,.inl (Ah.of M.wl),rfl,?_⟩;rw[OL];show Q (.bl (decide (V.int ((z.length:Nat):Int)=V.int ((0:Nat):Int)))) H;rw[kB];exact q
end
theorem Cz{n:Int}{c:Nat}{m:Nat}(h:n=(m:Int)):((Sum.inl n:Key)=Sum.inl (c:Int))↔c=m:=by
 subst h;constructor
 .intro z;injection z with z;lia
 .intro z;rw[z]
theorem Ta(c:Nat):C4 [(Sum.inl (38),.str "&"),(Sum.inl (40),.str "("),(Sum.inl (41),.str ")"),(Sum.inl (45),.str "-"),(Sum.inl (124),.str "|")] (Sum.inl (c:Int):Key)=(Bg c).map λs=>V.str (kindS s):=by
 unfold Bg;by_cases h:c=38
 .rw[DH ((Cz (m:=38) rfl).mpr h),xQ h];rfl
 rw[DJ (λz=>h ((Cz (m:=38) rfl).mp z)),xJ h];by_cases h:c=40
 .rw[DH ((Cz (m:=40) rfl).mpr h),xQ h];rfl
 rw[DJ (λz=>h ((Cz (m:=40) rfl).mp z)),xJ h];by_cases h:c=41
 .rw[DH ((Cz (m:=41) rfl).mpr h),xQ h];rfl
 rw[DJ (λz=>h ((Cz (m:=41) rfl).mp z)),xJ h];by_cases h:c=45
 .rw[DH ((Cz (m:=45) rfl).mpr h),xQ h];rfl
 rw[DJ (λz=>h ((Cz (m:=45) rfl).mp z)),xJ h];by_cases h:c=124
 .rw[DH ((Cz (m:=124) rfl).mpr h),xQ h];rfl
 rw[DJ (λz=>h ((Cz (m:=124) rfl).mp z)),xJ h];rfl
theorem Gy(c:Nat):C4 [(Sum.inl (35),.str "#"),(Sum.inl (60),.str "<"),(Sum.inl (62),.str ">")] (Sum.inl (c:Int):Key)=if c=35 then some (V.str "#")else if c=60 then some (V.str "<")else if c=62 then some (V.str ">")else none:=by
 by_cases h:c=35
 .rw[DH ((Cz (m:=35) rfl).mpr h),xQ h]
 rw[DJ (λz=>h ((Cz (m:=35) rfl).mp z)),xJ h];by_cases h:c=60
 .rw[DH ((Cz (m:=60) rfl).mpr h),xQ h]
 rw[DJ (λz=>h ((Cz (m:=60) rfl).mp z)),xJ h];by_cases h:c=62
 .rw[DH ((Cz (m:=62) rfl).mpr h),xQ h]
 rw[DJ (λz=>h ((Cz (m:=62) rfl).mp z)),xJ h];rfl
theorem pY:∀{r:List Nat}{k:Nat},k< (r.takeWhile p).length->∃x,r[k]?=some x/\p x=true
 |[],k,h=>by simp at h
 |y::r,k,h=>by
  by_cases j:p y=true
  .rw[yp j]at h;cases k with
   |zero=>exact⟨y,rfl,j⟩
   |succ k=>obtain⟨x,h1,h2⟩:=pY (p:=p) (r:=r) (k:=k) (by simpa using h);exact⟨x,by simpa using h1,h2⟩
  .rw[y9 j]at h;simp at h
theorem lj:∀{r:List Nat}{x:Nat},r[(r.takeWhile p).length]?=some x->p x=false
 |[],x,h=>by simp at h
 |y::r,x,h=>by
  by_cases j:p y=true
  .rw[yp j]at h;exact lj (p:=p) (r:=r) (by simpa using h)
  .rw[y9 j]at h;have:y=x:=by simpa using h
   subst this;simpa using j
section
variable{P:Program}{w:World}{K:PySem.W.Frag}{mg:Str->Option Value}{base:Heap}
inductive VY(vs:List V)(H:Hp)(Q:VK)(z3_:XK):Prop
 |mk (a:Addr) (t:List Nat) (p c:Nat) (_:vs=[.ref a,vn p]) (_:LI H a t) (_:t[p]?=some c) (_:Q (vn (p+1+(Bk c (t.drop (p+1))).length)) H)
abbrev v9(a:Addr)(p:Nat)(r:List Nat)(H:Hp):Nat->L2.St->Hp->Prop:=λn σ H'=>H'=H/\∃k,σ=[some (.ref a),some (vn p),some (vn (p+1+k))]/\k<=(r.takeWhile BJ).length/\n=(r.takeWhile BJ).length - k
theorem US(T:Txt w K mg):FB P w mg base T.NJ 2 VY:=by
 refine Ce T.NJ G7 λaa A U s H vs Q E O h=>?_;obtain⟨a,t,p,c,rfl,J,hc,q⟩:=h;refine⟨_,(AD (B6 2 G7.nd (Ap EK (pv 1) AL)) (AD (Ab (dr (Yv (Cv (pv 0) (pv 1)) (CF (v:=.ref T.Bq) rfl T.DU rfl))) (AF (AK (pv 2))) AQ) (AD (MK xo (PW.pt (J2 (CA Nz (pv 2) (IM T.Be (pv 0))) (GX (PW.pt (Ds (A7 (CI O (NY T) T.Qc (AA (Cv (pv 0) (pv 2)) AE))) (Ds (A7 (CI O (Hy T) T.Jh (AA (Cv (pv 0) (pv 2)) AE))) (DC (CA A5 (Cv (pv 0) (pv 2)) (gi T.Rr))))))))) (AF (B6 2 G7.nd (Ap EK (pv 2) AL)))) (AF (AK (pv 2)))))),?_⟩;dsimp only[A0,Cx.Ck];refine AS ⟨_,rfl,_,_,rfl,rfl,?_⟩;refine AU (Bg c).isSome (λQ q=>⟨_,rfl,_,rfl,a,_,_,_,rfl,rfl,J.sq,at_of (j:=p) rfl (by unfold Bs;rw[xh,hc];rfl),_,_,Sum.inl (c:Int),rfl,T.C9,rfl,_,rfl,by rw[Ta,ABi];exact q⟩) (λh=>?_) (λh=>?_)
 .refine⟨_,rfl,?_⟩;have:Bk c (t.drop (p+1))=[]:=xQ h;rw[this]at q;exact q
 have Y:Bk c (t.drop (p+1))=(t.drop (p+1)).takeWhile BJ:=xJ (by rw[h];decide);rw[Y]at q;generalize O:t.drop (p+1)=r at q;have N:∀k,t[p+1+k]?=r[k]?:=λk=>by rw[<-O,List.getElem?_drop]
 refine⟨(v9 a p r H),⟨_,rfl,0,rfl,xi _,rfl⟩,?_⟩;rintro n σ H' ⟨rfl,k,rfl,hk,rfl⟩;refine⟨_,rfl,_,rfl,a,_,rfl,.inl J.sq,_,_,rfl,rfl,_,rfl,?_⟩;rw[Am];show if decide (((p+1+k:Nat):Int)< ((t.length:Nat):Int))=true then _ else _
 rw[IS];by_cases I:k< (r.takeWhile BJ).length
 .obtain⟨x,L,z⟩:=pY I;rw[<-N]at L;have B:=(xP.mp L).1;rw[xR B];have M:(Bs t)[p+1+k]?=some (vn x):=by unfold Bs;rw[xh,L];rfl
  refine EG ⟨_,rfl,_,rfl,a,_,_,_,rfl,rfl,J.sq,at_of (j:=p+1+k) rfl M,x,rfl,_,rfl,?_⟩;unfold BJ at z;cases h1:Vbptal.isCapital x with
  |true=>exact EG (EG ⟨_,λ_ _ h=>h,_,rfl,_,_,rfl,rfl,(r.takeWhile BJ).length - (k+1),Om,rfl,k+1,rfl,I,rfl⟩)
  |false=>
   rw[h1,yo]at z;refine ED ⟨_,rfl,_,rfl,a,_,_,_,rfl,rfl,J.sq,at_of (j:=p+1+k) rfl M,x,rfl,_,rfl,?_⟩;cases h2:Vbptal.isDigit x with
   |true=>exact EG (EG ⟨_,λ_ _ h=>h,_,rfl,_,_,rfl,rfl,(r.takeWhile BJ).length - (k+1),Om,rfl,k+1,rfl,I,rfl⟩)
   |false=>rw[h2,yo]at z;have h3:=xI z;subst h3;refine ED ⟨_,rfl,_,rfl,a,_,_,_,rfl,rfl,J.sq,at_of (j:=p+1+k) rfl M,rfl,_,rfl,?_⟩;exact EG ⟨_,λ_ _ h=>h,_,rfl,_,_,rfl,rfl,(r.takeWhile BJ).length - (k+1),Om,rfl,k+1,rfl,I,rfl⟩
 .have ek:k=(r.takeWhile BJ).length:=by lia
  subst ek;by_cases B:p+1+(r.takeWhile BJ).length<t.length
  .rw[xR B];have L:t[p+1+(r.takeWhile BJ).length]?=some t[p+1+(r.takeWhile BJ).length]:=xW B;generalize t[p+1+(r.takeWhile BJ).length]=x at L;have z:=lj (p:=BJ) (r:=r) (x:=x) (by rw[<-N];exact L);have M:(Bs t)[p+1+(r.takeWhile BJ).length]?=some (vn x):=by unfold Bs;rw[xh,L];rfl
   unfold BJ at z;rw[yU,yU]at z;refine EG ⟨_,rfl,_,rfl,a,_,_,_,rfl,rfl,J.sq,at_of (j:=_) rfl M,x,rfl,_,rfl,?_⟩;rw[z.1];refine ED ⟨_,rfl,_,rfl,a,_,_,_,rfl,rfl,J.sq,at_of (j:=_) rfl M,x,rfl,_,rfl,?_⟩;rw[z.2.1];refine ED ⟨_,rfl,_,rfl,a,_,_,_,rfl,rfl,J.sq,at_of (j:=_) rfl M,rfl,_,rfl,?_⟩;show if decide (V.int ((x:Nat):Int)=V.int ((33:Nat):Int))=true then _ else _
   rw[kB,z.2.2];exact ED ⟨_,rfl,q⟩
  .rw[xV B];exact ED (ED ⟨_,rfl,q⟩)
inductive JF(vs:List V)(H:Hp)(Q:VK)(z3_:XK):Prop
 |mk (kd:Str) (a:Addr) (t:List Nat) (hi:Nat) (mk:Nat->Sg) (_:vs=[.str kd,.ref a]) (_:LI H a t) (_:hi<100000) (_:C4 ([(Sum.inr "#",.int (5)),(Sum.inr "<",.int (999)),(Sum.inr ">",.int (999))]:List (Key×V)) (Sum.inr kd)=some (vn hi)) (_:(∀n,kindS (mk n)=kd/\Kt (mk n)=n)) (_:(Vbptal.number 0 hi t=none->Q .non H)) (_:(∀n,Vbptal.number 0 hi t=some n->∀H' p,AN H H'->H p=none->RJ H' p (mk n)->Q (.ref p) H'))
theorem Q2(T:Txt w K mg):FB P w mg base T.KY 3 JF:=by
 refine Ce T.KY Ic λM A j s H vs Q E N h=>?_;obtain⟨kd,a,t,hi,mk,rfl,O,I,U,J,L,qs⟩:=h;refine⟨_,(AD (B6 2 Ic.nd (CI N (KO T) T.Lw (AA (pv 1) AE))) (AD (Ab (PW.pt (Ds (CA Nz (pv 2) AL) (DC (CA HV (pv 2) (Ff (CF (v:=.ref T.Eg) rfl T.PB rfl) (pv 0) (λ_ _=>rfl)))))) (AF (AK B9)) AQ) (AF (AK (FI (AA (pv 0) (AA (pv 2) AE))))))),?_⟩;dsimp only[A0,Cx.Ck];rw[Li I]at L;have B:=λn h=>qs n (by rw[Li I];exact h);refine AS ⟨_,rfl,a,t,rfl,O,?_⟩;refine AU (decide (Dy t<0)|| decide (Dy t > (hi:Int))) (λQ q=>⟨_,rfl,_,_,rfl,rfl,_,rfl,?_⟩) (λh=>?_) (λh=>?_)
 .refine N4 (R:=λb=>Q b H) (b:=decide (Dy t<0)) (λh=>?_) (λh=>?_)
  .rw[h]at q;exact q
  .rw[h,yo]at q;exact⟨_,rfl,_,rfl,_,_,Sum.inr kd,vn hi,rfl,T.Ob,rfl,U,_,_,rfl,rfl,_,rfl,q⟩
 .refine L (xJ ?_);rintro⟨h1,h2⟩;rcases zN.mp h with z|z
  .have:=xI z;lia
  .have:=xI z;lia
 .rw[yU]at h;have h1:=xc h.1;have h2:=xc h.2;have Y:=B (Dy t).toNat (xQ ⟨Om,Om⟩);refine⟨_,rfl,_,rfl,AW (by show 2<=1000;decide),λp np=>Y _ p (AI np) np ?_⟩;unfold RJ;rw[AB,(J _).1,(J _).2];rw[show vn (Dy t).toNat=V.int (Dy t) by show V.int _=_;rw[show((Dy t).toNat:Int)=Dy t by lia]]
inductive Vw(D C:Addr)(vs:List V)(H:Hp)(Q:VK)(z3_:XK):Prop
 |mk (a b:Addr) (row:List Nat) (e:Vbptal.Edition) (tx:List Nat) (_:vs=[.ref a,.ref b]) (_:LI H a row) (_:row≠[]) (_:Jo D C H b e tx) (_:Cc e) (_:(FK e row=none->∀H',AN H H'->Q .non H')) (_:(∀s,FK e row=some s->∀H' p,AN H H'->H p=none->RJ H' p s->Q (.ref p) H'))
theorem WQ(T:Txt w K mg):FB P w mg base T.Qb 3 (Vw T.A1 T.AX):=by
 refine Ce T.Qb IQ λab A L s H vs Q E hr h=>?_;obtain⟨a,b,row,e,tx,rfl,B,M,hE,ok,J,qs⟩:=h;refine⟨_,(AD (B6 2 IQ.nd (Eh A5 (Cv (pv 0) (Ln Gv AL)) (gi T.Rr) (G5 _))) (AD (B6 3 IQ.nd (CI hr (FD T) T.Fs (AA (Jb (A7 (pv 2)) (D0 FO (pv 0) J7 (Dn (Ln Gv AL))) (pv 0)) (AA (AO (pv 1) rfl) AE)))) (AD (Ab (CA A5 (pv 3) (gi T.DA)) (AF (AK B9)) AQ) (AF (AK (FI (AA (gs T.O6) (AA (Jb (A7 (pv 2)) (HN hr (pv 1) T.BN T.CT (CV T) (AA (pv 3) AE)) (AO (Cv (AO (pv 1) rfl) (pv 3)) rfl)) AE)))))))),?_⟩;dsimp only[A0,Cx.Ck];obtain⟨I,lt,lc,h1,h2,h3⟩:=id hE;obtain⟨x,N⟩:∃x,row.getLast?=some x:=by
  cases z:row.getLast? with
  |none=>exact absurd (ABr.mp z) M
  |some x=>exact⟨x,rfl⟩
 have O:alone row=decide (x=33):=by
  unfold alone;rw[N];by_cases z:x=33
  .rw[xR z,xR (by rw[z])]
  .rw[xV z,xV (λq=>z (xn q))]
 refine AS ⟨_,rfl,_,rfl,a,_,_,_,rfl,rfl,B.sq,cV row N,rfl,?_⟩;dsimp only;rw[show decide (vn x=V.int 33)=alone row by rw[O];exact kB (b:=33)];refine AS ?_;refine(λ(hyp:∀R:V->Hp->Prop,(∀H' d,AN H H'->LI H' d (if alone row=true then row.dropLast else row)->R (.ref d) H')->ph _ _ _ _ H R)=>hyp _ (λH1 d U hd=>?_)) (λR r=>?_);rotate_left
 .refine RT (alone row) (λQ q=>⟨_,rfl,_,rfl,q⟩) (λh=>?_) (λh=>?_)
  .refine⟨_,rfl,_,rfl,_,rfl,a,_,rfl,B.sq,λp np=>r _ p (AI np) ?_⟩;rw[xQ h];unfold LI;rw[AB];have e1:row=row.dropLast++[x]:=iL N;have:GP (Bs row) none (some (-1))=Bs row.dropLast:=by
    conv=>lhs;rw[e1,B4]
    exact Xd _ _
   exact x3 (λz=>some (HO.lst z)) this
  .refine⟨_,rfl,r H a (AN.refl _) ?_⟩;rw[xJ (by rw[h];decide)];exact B
 refine⟨_,rfl,b,_,I,_,_,rfl,U _ _ h1,T.BN,T.Ax,Cu _ _,d,lc,_,e,rfl,hd,h3.mono U,λH2 s2=>?_⟩;have n:=U.trans s2;have hP:∀o:Option Nat,decide (Kz o=V.int (-1))=o.isNone:=λo=>by have e7:=Mb o;rw[<-Bool.not_not (decide _),e7];cases o<;> rfl
 unfold FK at J qs;generalize ho:Vbptal.placeOf e (if alone row=true then row.dropLast else row)=o at J qs⊢;refine AU o.isNone (λQ q=>⟨_,rfl,by cases o<;> rfl,_,rfl,by rw[hP];exact q⟩) (λh=>?_) (λh=>?_)
 .rw[AAg.mp h]at J;exact J rfl H2 n
 .cases o with
  |none=>cases h
  |some i=>
   obtain⟨y,Y,_⟩:=placeOf_some ho;have hi:i<e.length:=(xP.mp Y).1;obtain⟨as,g1,g2⟩:=h3.mono n;obtain⟨u,hu,du,ae,aa,af⟩:=Bu i y g2 Y;refine(λ(hyp:∀R:V->Hp->Prop,R (vn (if alone row=true then Vbptal.own e i else Vbptal.maskAt e i)) H2->ph _ _ _ _ H2 R)=>hyp _ ?_) (λR r=>?_);rotate_left
   .refine RT (alone row) (λQ q=>⟨_,rfl,_,rfl,q⟩) (λh=>?_) (λh=>?_)
    .rw[xQ h]at r;exact⟨_,rfl,b,I,_,rfl,n _ _ h1,bD _ _ Dk Dk,_,rfl,b,e,tx,i,rfl,hE.mono n,ok,hi,r⟩
    .rw[xJ (by rw[h];decide),Dl Y]at r;exact⟨_,rfl,b,_,I,_,_,rfl,n _ _ h1,T.BN,T.Ax,Cu _ _,_,rfl,lc,_,_,_,rfl,rfl,Ah.of g1,at_of (j:=i) rfl (by rw[xh,hu];rfl),u,_,du,_,_,rfl,aa,T.Aa,T.Ae,Bt _ _ _,r⟩
   exact⟨AW (by show 2<=1000;decide),λp np=>qs _ rfl _ p (n.trans (AI np)) (n.free np) AB⟩
end
theorem j0(h:takes m s=some j):j.pieces.length+j.wait.length<=m.pieces.length+m.wait.length+1:=by
 unfold takes at h;split at h
 .unfold behind at h;split at h
  .cases h
  .rename_i a w n;split at h
   .split at h
    .cases h;rw[n];exact z0 _
    .cases h
   .split at h
    .cases h;rw[ba,n,xS];show m.pieces.length+1+w.length<=m.pieces.length+(w.length+1)+1;lia
    .cases h
 .split at h
  .cases h;exact xZ _
  .split at h
   .cases h
   .cases h;rw[ba,xS];show m.pieces.length+1+m.wait.length<=_;lia
section
variable{P:Program}{w:World}{K:PySem.W.Frag}{mg:Str->Option Value}{base:Heap}
inductive YX(D C:Addr)(vs:List V)(H:Hp)(Q:VK)(z3_:XK):Prop
 |mk (a b:Addr) (c:Nat) (r:List Nat) (e:Vbptal.Edition) (tx:List Nat) (_:vs=[.ref a,.ref b]) (_:LI H a (c::r)) (_:Jo D C H b e tx) (_:Cc e) (_:(C8 e c r=none->∀H',AN H H'->Q .non H')) (_:(∀s,C8 e c r=some s->∀H' p,AN H H'->H p=none->RJ H' p s->Q (.ref p) H'))
theorem YU(T:Txt w K mg):FB P w mg base T.Rh 4 (YX T.A1 T.AX):=by
 refine Ce T.Rh P5 λae A O s H vs Q E hr h=>?_;obtain⟨a,b,c,r,e,tx,rfl,I,hE,ok,L,qs⟩:=h;refine⟨_,(AD (B6 2 P5.nd (Cv (pv 0) AL)) (AD (Ab (dr (Yv (pv 2) (CF (v:=.ref T.Bq) rfl T.DU rfl))) (AF (AK (FI (AA (Ff (CF (v:=.ref T.Bq) rfl T.DU rfl) (pv 2) (λ_ _=>rfl)) (AA AL AE))))) AQ) (AD (Ab (dr (Yv (pv 2) (CF (v:=.ref T.Cw) rfl T.F0 rfl))) (AF (AK (CI hr (Q2 T) T.Sl (AA (Ff (CF (v:=.ref T.Cw) rfl T.F0 rfl) (pv 2) (λ_ _=>rfl)) (AA (D0 FO (pv 0) (Dn AL) J7) AE))))) AQ) (AF (AK (CI hr (WQ T) T.ZN (AA (pv 0) (AA (pv 1) AE)))))))),?_⟩;dsimp only[A0,Cx.Ck];refine AS ⟨_,rfl,a,_,_,_,rfl,rfl,I.sq,at_of (j:=0) rfl rfl,?_⟩;refine AU (Bg c).isSome (λQ q=>⟨_,rfl,_,_,Sum.inl (c:Int),rfl,T.C9,rfl,_,rfl,by rw[Ta,ABi];exact q⟩) (λh=>?_) (λh=>?_)
 .obtain⟨s1,M⟩:=ABt.mp h;have U:Kt s1=0:=by
   unfold Bg at M
   repeat' split at M
   all_goals cases M
   all_goals rfl
  refine⟨_,rfl,_,_,Sum.inl (c:Int),_,rfl,T.C9,rfl,by rw[Ta,M];rfl,AW (by show 2<=1000;decide),λp np=>qs s1 ?_ _ p (AI np) np ?_⟩
  .unfold C8;rw[M]
  .unfold RJ;rw[AB,U];rfl
 have Y:Bg c=none:=Option.not_isSome_iff_eq_none.mp (by rw[h];decide);have eR:C8 e c r=if c=35 then(Vbptal.number 0 5 r).map .word else if c=60 then(Vbptal.number 0 999 r).map .until else if c=62 then(Vbptal.number 0 999 r).map .since else FK e (c::r):=by unfold C8;rw[Y]
 rw[eR]at L qs;have go:∀(kd:Str)(hi:Nat)(mk:Nat->Sg)(_:hi<100000)(_:C4 ([(Sum.inr "#",.int (5)),(Sum.inr "<",.int (999)),(Sum.inr ">",.int (999))]:List (Key×V)) (Sum.inr kd)=some (vn hi))(_:∀n,kindS (mk n)=kd/\Kt (mk n)=n)
   (_:(Vbptal.number 0 hi r).map mk=none->∀H',AN H H'->Q .non H') (_:∀s,(Vbptal.number 0 hi r).map mk=some s->∀H' p,AN H H'->H p=none->RJ H' p s->Q (.ref p) H'),
   ∀p,H p=none->JF [.str kd,.ref p] (upd H p (.lst (GP (Bs (c::r)) (some 1) none))) Q E0:=λkd hi mk h1 h2 h3 h4 h5 p np=>by
  have ec:GP (Bs (c::r)) (some 1) none=Bs r:=Qs (Bs (c::r)) 1;rw[ec];refine⟨kd,p,r,hi,mk,rfl,AB,h1,h2,h3,λz=>h4 (by rw[z];rfl) _ (AI np),λn z H' p' s' aa ab=>h5 (mk n) (by rw[z];rfl) H' p' ((AI np).trans s') ((AI np).free aa) ab⟩
 by_cases B:c=35
 .rw[xQ B]at L qs;refine AU true (λQ q=>⟨_,rfl,_,_,Sum.inl (c:Int),rfl,T.BV,rfl,_,rfl,by rw[Gy,xQ B];exact q⟩) (λ_=>?_) (λh=>by cases h);exact⟨_,rfl,_,_,Sum.inl (c:Int),_,rfl,T.BV,rfl,by rw[Gy,xQ B],_,rfl,_,rfl,a,_,rfl,I.sq,go "#" 5 .word Dc Dk (λn=>⟨rfl,rfl⟩) L qs⟩
 rw[xJ B]at L qs;by_cases J:c=60
 .rw[xQ J]at L qs;refine AU true (λQ q=>⟨_,rfl,_,_,Sum.inl (c:Int),rfl,T.BV,rfl,_,rfl,by rw[Gy,xJ B,xQ J];exact q⟩) (λ_=>?_) (λh=>by cases h);exact⟨_,rfl,_,_,Sum.inl (c:Int),_,rfl,T.BV,rfl,by rw[Gy,xJ B,xQ J],_,rfl,_,rfl,a,_,rfl,I.sq,go "<" 999 .until Dc Dk (λn=>⟨rfl,rfl⟩) L qs⟩
 rw[xJ J]at L qs;by_cases N:c=62
 .rw[xQ N]at L qs;refine AU true (λQ q=>⟨_,rfl,_,_,Sum.inl (c:Int),rfl,T.BV,rfl,_,rfl,by rw[Gy,xJ B,xJ J,xQ N];exact q⟩) (λ_=>?_) (λh=>by cases h);exact⟨_,rfl,_,_,Sum.inl (c:Int),_,rfl,T.BV,rfl,by rw[Gy,xJ B,xJ J,xQ N],_,rfl,_,rfl,a,_,rfl,I.sq,go ">" 999 .since Dc Dk (λn=>⟨rfl,rfl⟩) L qs⟩
 rw[xJ N]at L qs;refine AU false (λQ q=>⟨_,rfl,_,_,Sum.inl (c:Int),rfl,T.BV,rfl,_,rfl,by rw[Gy,xJ B,xJ J,xJ N];exact q⟩) (λh=>by cases h) (λ_=>?_);exact⟨_,rfl,_,rfl,a,b,_,e,tx,rfl,I,by simp,hE,ok,L,qs⟩
inductive WO(D C:Addr)(vs:List V)(H:Hp)(Q:VK)(z3_:XK):Prop
 |mk (a b:Addr) (t:List Nat) (e:Vbptal.Edition) (tx:List Nat) (_:vs=[.ref a,.ref b]) (_:LI H a t) (_:t.length<=500) (_:Jo D C H b e tx) (_:Cc e) (_:(signs e t=none->∀H',AN H H'->Q .non H')) (_:(∀l,signs e t=some l->l.length<=500->∀H' p,AN H H'->GI H' p l->Q (.ref p) H'))
abbrev vI(a b D:Addr)(t:List Nat)(e:Vbptal.Edition)(H:Hp):Nat->L2.St->Hp->Prop:=λn σ H'=>∃(p:Nat)(v4 j:Option V)(acc:List Sg)(as:List Addr),σ=[some (.ref a),some (.ref b),some (.ref D),some (vn p),v4,j]/\n=t.length - p/\p<=t.length/\acc.length<=p/\AN H H'/\H' D=some (.lst (as.map V.ref))/\Paired (RJ H') as acc/\signs e t=(signs e (t.drop p)).map λl=>acc++l
theorem WG(T:Txt w K mg):FB P w mg base T.Pk 5 (WO T.A1 T.AX):=by
 refine Ce T.Pk DP λai A aa s H vs Q E hr h=>?_;obtain⟨a,b,t,e,tx,rfl,ht,ag,hE,ok,qn,qs⟩:=h;refine⟨_,(AD (B6 2 DP.nd (AZ AE)) (AD (B6 3 DP.nd AL) (AD (MK xo (CA Nz (pv 3) (IM T.Be (pv 0))) (AD (B6 4 DP.nd (CI hr (US T) T.Vi (AA (pv 0) (AA (pv 3) AE)))) (AD (B6 5 DP.nd (CI hr (YU T) T.Zv (AA (D0 FO (pv 0) (Dn (pv 3)) (Dn (pv 4))) (AA (pv 1) AE)))) (AD (Ab (CA Ra (pv 5) B9) (AF (AK B9)) AQ) (AD (A3 (Cn xa xw xx BD (pv 2) (AA (pv 5) AE))) (AF (B6 3 DP.nd (pv 4)))))))) (AF (AK (pv 2)))))),?_⟩;dsimp only[A0,Cx.Ck];refine AS ⟨xi _,λD nD=>?_⟩;refine AS ?_;refine⟨(vI a b D t e H),
  ⟨_,0,none,none,[],[],rfl,rfl,xi _,xZ _,AI nD,AB,.nil,by cases z:signs e t<;> simp[z]⟩,?_⟩
 rintro n σ H1 ⟨p,v4,v5,acc,as,rfl,rfl,hp,ah,J,hD,L,j⟩;refine⟨_,rfl,_,rfl,a,_,rfl,.inl ((ht.mono J).sq),_,_,rfl,rfl,_,rfl,?_⟩;rw[Am];show if decide (((p:Nat):Int)< ((t.length:Nat):Int))=true then _ else _
 rw[IS];by_cases M:p<t.length
 .rw[xR M];have hc:t[p]?=some t[p]:=xW M;have N:t.drop p=t[p]::t.drop (p+1):=(AA2 ..).symm;generalize t[p]=c at hc N;refine EG ⟨_,λ_ _ h=>h,?_⟩;refine AS ⟨_,rfl,_,rfl,a,t,p,c,rfl,ht.mono J,hc,?_⟩;have Y:=i5 c (t.drop (p+1));rw[zh]at Y;rw[N,VL]at j;have B:(t.drop (p+1)).take (Bk c (t.drop (p+1))).length=Bk c (t.drop (p+1)):=by
   unfold Bk;split
   .rfl
   .exact List.prefix_iff_eq_take.mp (List.takeWhile_prefix _)|>.symm
  have I:GP (Bs t) (some ((p:Nat):Int)) (some ((p+1+(Bk c (t.drop (p+1))).length:Nat):Int))=Bs (c::Bk c (t.drop (p+1))):=by rw[Z6 _ _ _ (by rw[Am];lia)];unfold Bs;rw[<-ABg,<-AAY,N,show p+1+(Bk c (t.drop (p+1))).length - p=(Bk c (t.drop (p+1))).length+1 by lia,List.take_succ_cons,B]
  generalize aj:Bk c (t.drop (p+1))=r at Y I j B⊢;refine AS ⟨_,rfl,_,rfl,_,rfl,_,rfl,_,rfl,a,_,rfl,(ht.mono J).sq,λp1 n1=>?_⟩;rw[I];have s2:AN H1 (upd H1 p1 (.lst (Bs (c::r)))):=AI n1;refine⟨_,rfl,p1,b,c,r,e,tx,rfl,AB,hE.mono (J.trans s2),ok,λhn H3 s3=>?_,λs0 ab H3 p3 s3 n3 ae=>?_⟩
  .refine AU true (λQ q=>⟨_,rfl,rfl,_,rfl,q⟩) (λ_=>?_) (λh=>by cases h);exact qn (by rw[j,hn];rfl) H3 (J.trans (s2.trans s3))
  .refine AU false (λQ q=>⟨_,rfl,rfl,_,rfl,q⟩) (λh=>by cases h) (λ_=>?_);have O:=s2.trans s3;have U:=O _ _ hD;have af:as.length=acc.length:=AR L;refine D3 ⟨_,rfl,.inl ⟨rfl,_,Ah.of U⟩,_,rfl,D,_,_,rfl,rfl,U,?_,?_⟩
   .rw[xH,af];exact Az Om
   have hk:∀x s,RJ H3 x s->RJ (upd H3 D (.lst (as.map V.ref++[.ref p3]))) x s:=λx s z=>(AG (Dv z U (by intro q;cases q))).trans z;refine⟨_,rfl,t.length - (p+1+r.length),Om,p+1+r.length,_,_,acc++[s0],as++[p3],rfl,rfl,Om,by simp;lia,λx o z=>?_,?_,BR (Paired.BO (λx s z=>hk x s (O _ _ z)) L) (hk _ _ ae),?_⟩
   .rw[AG (AH z nD)];exact O _ _ (J _ _ z)
   .rw[AB,xX];rfl
   .rw[j,ab];dsimp only;rw[List.drop_drop,show p+1+r.length=p+1+r.length from rfl];cases signs e (t.drop (p+1+r.length))<;> simp
 .rw[xV M];have ep:t.drop p=[]:=AA1 Om;rw[ep,Xi]at j;refine ED ⟨_,rfl,qs acc (by rw[j];simp) Om H1 D J ⟨as,hD,L⟩⟩
theorem UE:∀(l n:List Sg)(m:Maker),runM m (l++n)=(runM m l).bind λj=>runM j n
 |[],n,m=>rfl
 |s::l,n,m=>by
  show(match takes m s with|none=>none|some j=>runM j (l++n))=(match takes m s with|none=>none|some j=>runM j l).bind _;cases takes m s with
  |none=>rfl
  |some j=>exact UE l n j
theorem kz(m:Maker)(s:Sg):runM m [s]=takes m s:=by show(match takes m s with|none=>none|some j=>runM j [])=_;cases takes m s<;> rfl
theorem qZ(b:Bool)(h:∀Q:Bool->Hp->Prop,Q b H->t σ H Q)(j:b=true->ta σ H D.rt)(n:b=false->tb σ H D.rt):uY (ph t ta tb) D σ H:=RT b h j n
inductive UD(D C:Addr)(vs:List V)(H:Hp)(Q:VK)(z3_:XK):Prop
 |mk (a b:Addr) (t:List Nat) (e:Vbptal.Edition) (tx:List Nat) (_:vs=[.ref a,.ref b]) (_:LI H a t) (_:t.length<=500) (_:Jo D C H b e tx) (_:Cc e) (_:((signs e t).bind made=none->∀H',AN H H'->Q .non H')) (_:(∀l,(signs e t).bind made=some l->∀H' p,AN H H'->H p=none->GI H' p l->Q (.ref p) H'))
abbrev vQ(T:Txt w K mg)(a b j x dx lp lw:Addr)(l:List Sg)(H1:Hp):Nat->L2.St->Hp->Prop:=λi σ H'=>(∃v1 n:Option V,σ=[some (.ref a),some (.ref b),some (.ref j),some (.ref x),v1,n])/\AN H1 H'/\∃m,runM ⟨[],[],false⟩ (l.take i)=some m/\m.pieces.length+m.wait.length<=i/\oz T.Ai H' x dx lp lw m
theorem T9(T:Txt w K mg):FB P w mg base T.Ny 6 (UD T.A1 T.AX):=by
 refine Ce T.Ny Dh λaq A ai s H vs Q E hr h=>?_;obtain⟨a,b,t,e,tx,rfl,ht,O,hE,ok,B,qs⟩:=h;refine⟨_,(AD (B6 2 Dh.nd (CI hr (WG T) T.ZQ (AA (pv 0) (AA (pv 1) AE)))) (AD (Ab (CA Ra (pv 2) B9) (AF (AK B9)) AQ) (AD (B6 3 Dh.nd (nA (OG T) λa b=>Tg T.V9 a (hr.mono Dc) rfl T.Zf b .nil LK)) (AD (Bc xo rfl (BE (pv 2)) (DT rfl (Ak (Dz 4 Dh.nd) (Ak (Dz 5 Dh.nd) CY))) (AF (Ab (Ba (A7 (HN hr (pv 3) T.Ac T.Mm (Ml T) (AA (pv 4) (AA (pv 5) AE))))) (AF (AK B9)) AQ))) (AF (AK (Jb (A7 (nA (J8 T) λa b=>lL (pv 3) T.Ac T.KC a (hr.mono Dc) b .nil LK)) (AO (pv 3) rfl) B9))))))),?_⟩;dsimp only[A0,Cx.Ck];refine AS ⟨_,rfl,_,rfl,a,b,t,e,tx,rfl,ht,O,hE,ok,λhn H1 L=>?_,λl hl ar H1 p1 L aj=>?_⟩
 .refine AU true (λQ q=>⟨_,rfl,rfl,_,rfl,q⟩) (λ_=>?_) (λh=>by cases h);exact B (by rw[hn];rfl) H1 L
 refine AU false (λQ q=>⟨_,rfl,rfl,_,rfl,q⟩) (λh=>by cases h) (λ_=>?_);rw[hl]at B qs;have B:made l=none->∀H',AN H H'->Q .non H':=B;have qs:∀U,made l=some U->∀H' p,AN H H'->H p=none->GI H' p U->Q (.ref p) H':=qs;unfold made at B qs;obtain⟨as,g1,Y⟩:=id aj;refine AS λx dx nx nd au=>⟨x,dx,rfl,AB,λH2 lp lw k2 ak am M=>⟨rfl,?_⟩⟩;have aa:AN H1 H2:=λb o z=>k2 b o (AH z nx) (by rw[AG (AH z nx),AG (AH z nd)];exact z);have n:∀{y:Addr},(upd (upd H1 dx (.own x)) x (.ins T.Ai dx [])) y=none->H1 y=none:=λ{y}z=>by
  by_cases e1:y=x
  .rw[e1];exact nx
  .by_cases e2:y=dx
   .rw[e2];exact nd
   .rw[AG e1,AG e2]at z;exact z
 have I:=n ak;have ab:=n am;have fr:∀{Ha Hb:Hp},AN H1 Ha->fY Ha Hb x lp lw->AN H1 Hb:=λ{Ha Hb}sa f b o z=>f b o (AH z nx) (AH z I) (AH z ab) (sa _ _ z);refine⟨_,rfl,p1,rfl,⟨_,Ah.of (aa _ _ g1)⟩,Bh (K:=K) (a:=p1) (xs:=as.map V.ref)
  (vQ T a b p1 x dx lp lw l H1)
  ⟨⟨_,_,rfl⟩,aa,_,rfl,xZ _,M⟩ (λi σ H' _ z=>Ah.of (z.2.1 _ _ g1)) ?_ ?_⟩
 .rintro i v σ H3 hv ⟨⟨v1,v2,rfl⟩,N,m,hm,an,M3⟩;obtain⟨ya,ao,rfl⟩:=BK hv;obtain⟨s0,ae,af⟩:=Av i ya Y ao;have av:=(xP.mp ae).1;have J:runM ⟨[],[],false⟩ (l.take (i+1))=takes m s0:=by rw[take_succ ae,UE,hm];exact kz m s0
  obtain⟨ap,ag,j⟩:=id M3;refine⟨ya,_,rfl,Cd.of (N _ _ af),rfl,_,_,rfl,_,_,rfl,rfl,?_⟩;refine⟨_,rfl,x,dx,_,rfl,j.ob,j.mf.n1,_,rfl,_,rfl,x,dx,lp,lw,m,s0,rfl,M3,Om,λhn H4 s4=>⟨_,rfl,EG ?_⟩,λm' ah H4 f4 M4=>⟨_,rfl,ED ?_⟩⟩
  .refine B ?_ H4 (L.trans (N.trans s4));have:runM ⟨[],[],false⟩ l=none:=by
    conv=>lhs;rw[<-AAU (i+1) l]
    rw[UE,J,hn];rfl
   rw[this];rfl
  .have:=j0 ah;exact⟨⟨_,_,rfl⟩,fr N f4,m',by rw[J,ah],Om,M4⟩
 .rintro σ H3 ⟨⟨v1,v2,rfl⟩,N,m,hm,an,M3⟩;rw[xH,AR Y,xm]at hm;rw[hm]at B qs;obtain⟨ap,ag,j⟩:=id M3;have B:(if whole m=true then some m.pieces else none)=none->∀H',AN H H'->Q .non H':=B;have qs:∀U,(if whole m=true then some m.pieces else none)=some U->∀H' p,AN H H'->H p=none->GI H' p U->Q (.ref p) H':=qs;dsimp only;refine qZ (whole m) (λQ q=>⟨_,rfl,x,dx,_,rfl,j.ob,j.mf.n4,x,dx,lp,lw,m,rfl,M3,_,rfl,q⟩) (λh=>?_) (λh=>?_)
  .exact⟨_,rfl,x,_,dx,_,_,rfl,j.ob,T.Ac,T.Cp,j.mf.dJ,qs _ (xQ h) H3 lp (L.trans N) (L.free I) ⟨ag,j.pl,j.dJ⟩⟩
  .exact B (xJ (by rw[h];decide)) H3 (L.trans N)
end
noncomputable def gN:Sg->Bool
 | .topics _=>true
 |_=>false
noncomputable def isWord:Sg->Bool
 | .word _=>true
 |_=>false
noncomputable def X8:Sg->Bool
 | .until _=>true
 |_=>false
noncomputable def Ys:Sg->Bool
 | .since _=>true
 |_=>false
theorem kN(h:gN s=true):∃m,s=.topics m:=by cases s<;> first|exact⟨_,rfl⟩|exact absurd h xy
theorem gQ(h:isWord s=true):∃m,s=.word m:=by cases s<;> first|exact⟨_,rfl⟩|exact absurd h xy
theorem cA(h:X8 s=true):∃m,s=.until m:=by cases s<;> first|exact⟨_,rfl⟩|exact absurd h xy
theorem mX(h:Ys s=true):∃m,s=.since m:=by cases s<;> first|exact⟨_,rfl⟩|exact absurd h xy
theorem qA(s:Sg):decide (V.str (kindS s)=V.str "topics")=gN s:=by cases s<;> kernel_rfl
theorem ef(s:Sg):decide (V.str (kindS s)=V.str "#")=isWord s:=by cases s<;> kernel_rfl
theorem YO(s:Sg):decide (V.str (kindS s)=V.str "<")=X8 s:=by cases s<;> kernel_rfl
theorem nJ(s:Sg):decide (V.str (kindS s)=V.str ">")=Ys s:=by cases s<;> kernel_rfl
section
variable{P:Program}{w:World}{K:PySem.W.Frag}{mg:Str->Option Value}{base:Heap}
inductive YE(C:Addr)(vs:List V)(H:Hp)(Q:VK)(z3_:XK):Prop
 |mk (a b:Addr) (l:List Sg) (_:vs=[.ref a,.ref b]) (_:GI H a l) (_:l.length<=1000) (_:Yc C H b) (_:∀H' p,AN H H'->H p=none->GI (fresh H H') p (l.map Fc)->Q (.ref p) H')
theorem kE(s:Sg):kindS (Fc s)=kindS s:=by cases s<;> rfl
theorem Zd(T:Txt w K mg):FB P w mg base T.Rm 2 (YE T.An):=by
 refine Ce T.Rm GR λan A aa s H vs Q E hr h=>?_;obtain⟨a,b,l,rfl,ab,am,hM,q⟩:=h;obtain⟨as,g1,J⟩:=id ab;obtain⟨ae,dm,af,ao⟩:=id hM;refine⟨_,(AF (AK (Hw rfl GR.nd (BE (pv 0)) (show D1 ["pieces","meant_sets","kind","value"] (A4 K8) _ [("kind",2),("value",3)]from CB Dk) (λ_ _ _ _ _=>(show PG _ _ (eC K 2 _)from(DT rfl (Ak (Dz 2 GR.nd) (Ak (Dz 3 GR.nd) CY))))) (λ_ _ _ _ _=>Hz) (λ_ _ _ _ _=>(FI (AA (pv 2) (AA (Jb (CA A5 (pv 2) (gs T.O6)) (HN hr (pv 1) T.Bz T.Lx (MU T) (AA (pv 3) AE)) (pv 3)) AE))))))),?_⟩;dsimp only[A0,Cx.Ck];refine⟨_,rfl,a,rfl,⟨_,Ah.of g1⟩,λD U=>FP (K:=K) (a:=a) (xs:=as.map V.ref)
  (λi H'=>AN H H'/\∃bs:List Addr,H' D=some (.lst (bs.map V.ref))/\Paired (RJ (fresh H H')) bs ((l.take i).map Fc)) ⟨AI U,[],AB,.nil⟩ (λi H' _ z=>Ah.of (z.1 _ _ g1)) ?_ ?_⟩
 .rintro i v H1 hv ⟨I,bs,Y,j⟩;obtain⟨ya,ag,rfl⟩:=BK hv;obtain⟨n,L,M⟩:=Av i ya J ag;have ap:=(xP.mp L).1;refine⟨ya,_,rfl,Cd.of (I _ _ M),rfl,_,_,rfl,_,_,rfl,rfl,rfl,SA ?_⟩;refine⟨_,rfl,?_⟩;refine(λ(hyp:∀R:V->Hp->Prop,(∀H',AN H1 H'->R (vn (Kt (Fc n))) H')->ph _ _ _ _ H1 R)=>hyp _ (λH2 s2=>?_)) (λR r=>?_);rotate_left
  .refine RT (gN n) (λQ q=>⟨_,rfl,rfl,_,rfl,by rw[qA];exact q⟩) (λh=>?_) (λh=>?_)
   .obtain⟨m,rfl⟩:=kN h;exact⟨_,rfl,b,ae,_,rfl,I _ _ af,qB _ Dk Dk,_,rfl,b,m,rfl,hM.mono I,r⟩
   .have e:Kt (Fc n)=Kt n:=by cases n<;> first|rfl|cases h
    rw[e]at r;exact⟨_,rfl,r H1 (AN.refl _)⟩
  refine⟨AW (by show 2<=1000;decide),λp np=>?_⟩;have N:=s2 _ _ Y;have O:D≠p:=AH N np;have B:=I.trans s2;have ah:H p=none:=B.free np;have ai:bs.length=i:=by rw[AR j,xH,xt];lia
  have s3:∀x o,H x=some o->(upd (upd H2 p (.tup [.str (kindS n),vn (Kt (Fc n))])) D (.lst (bs.map V.ref++[.ref p]))) x=some o:=λx o z=>by rw[AG (AH z U),AG (AH (B _ _ z) np)];exact B _ _ z
  refine⟨_,by rw[AG O];exact N,?_,s3,bs++[p],?_,?_⟩
  .rw[xH,ai];exact Az Om
  .rw[AB,xX];rfl
  .rw[take_succ L,xX];refine BR (Paired.BO (λx s z=>?_) j) ?_
   .have aj:H x=none:=by
     cases q:H x with
     |none=>rfl
     |some o=>have z:fresh H H1 x=_:=z;rw[Cj q]at z;cases z
    have z1:H1 x=some (.tup [.str (kindS s),vn (Kt s)]):=Aw H H1 _ _ z;have ak:x≠D:=Dv z1 Y (by intro q;cases q);show fresh H _ x=_;rw[Ay aj,AG ak,AG (AH (s2 _ _ z1) np)];exact s2 _ _ z1
   .show fresh H _ p=_;rw[Ay ah,AG (x8 O),AB,kE]
 .rintro H1 ⟨I,bs,Y,j⟩;rw[xH,AR J,xm]at j;exact q H1 D I U ⟨bs,by rw[Ay U];exact Y,j⟩
noncomputable def vB(words:List Nat)(day:Nat):Sg->Bool
 | .word w=>words.contains w
 | .until d=>decide (day<=d)
 | .since d=>decide (d<=day)
 |_=>false
noncomputable def mG:Sg->Bool
 | .word _=>true
 | .until _=>true
 | .since _=>true
 |_=>false
inductive mJ(vs:List V)(H:Hp)(Q:VK)(z3_:XK):Prop
 |mk (s:Sg) (day:Nat) (lw:Addr) (words:List Nat) (_:vs=[.str (kindS s),vn (Kt s),vn day,.ref lw]) (_:mG s=true) (_:LI H lw words) (_:Q (.bl (vB words day s)) H)
theorem le_dec(a b:Nat):decide (((a:Nat):Int)<=((b:Nat):Int))=decide (a<=b):=by
 by_cases h:a<=b
 .rw[xR h,xR Om]
 .rw[xV h,xV Om]
theorem lg(T:Txt w K mg):FB P w mg base T.hU 1 mJ:=by
 refine Ce T.hU m3 λB A j s H vs Q E I h=>?_;obtain⟨z,day,lw,words,rfl,hd,n,q⟩:=h;refine⟨_,(AD (Ab (CA A5 (pv 0) (gs T.fS)) (AF (AK (Eh (show Kx _ _ (sg K false)from jd) (pv 1) (pv 3) rfl))) AQ) (AD (Ab (CA A5 (pv 0) (gs T.ZT)) (AF (AK (Eh Kb (pv 2) (pv 1) (G5 _)))) AQ) (AF (AK (Eh pq (pv 2) (pv 1) (G5 _)))))),?_⟩;refine AU _ (λQ q=>⟨_,rfl,rfl,_,rfl,q⟩) (λh=>?_) (λh=>?_)
 .rw[ef]at h;obtain⟨x,rfl⟩:=gQ h;refine⟨_,rfl,_,rfl,lw,_,rfl,.inl n.sq,rfl,Ur _,?_⟩;have:=YI x words;show Q (.bl (if false=true then _ else rJ (vn x) (Bs words))) H;rw[xJ Dc,this];exact q
 rw[ef]at h;refine AU _ (λQ q=>⟨_,rfl,rfl,_,rfl,q⟩) (λh2=>?_) (λh2=>?_)
 .rw[YO]at h2;obtain⟨x,rfl⟩:=cA h2;refine⟨_,rfl,_,rfl,_,_,rfl,rfl,?_⟩;show Q (.bl (decide (((day:Nat):Int)<=((x:Nat):Int)))) H;rw[le_dec];exact q
 .rw[YO]at h2;obtain⟨x,rfl⟩:∃x,z=.since x:=by
   clear q;cases z<;> first|exact⟨_,rfl⟩|(cases hd;done)|(cases h;done)|(cases h2;done)
  refine⟨_,rfl,_,rfl,_,_,rfl,rfl,?_⟩;show Q (.bl (decide (((day:Nat):Int)>= ((x:Nat):Int)))) H;rw[show decide (((day:Nat):Int)>= ((x:Nat):Int))=decide (x<=day)from le_dec x day];exact q
theorem FL(a:Nat)(st:List Nat):Bs (a::st).reverse=Bs st.reverse++[vn a]:=by rw[List.reverse_cons,B4]
theorem Py(xs:List j)(y:j):(xs++[y])[(xs++[y]).length - 1]?=some y:=by simp
inductive Zx(C:Addr)(vs:List V)(H:Hp)(Q:VK)(z3_:XK):Prop
 |mk (a dx lt lp tl lw:Addr) (fs:List (Str×V)) (e day:Nat) (words:List Nat) (q:Vbptal.Query) (_:vs=[.ref a,vn day,.ref lw,vn (A2 MS)]) (_:H a=some (.ins C dx fs)) (_:YV fs e lt lp tl) (_:GI H lp ((post q).map Fc)) (_:Vbptal.weight q<=1000) (_:LI H lw words) (_:∀H',AN H H'->Q (vn (Fu words day q)) H')
theorem kZ{l:List Nat}(h:2<=l.length):∃y x t,l=y::x::t:=by
 cases l with
 |nil=>cases h
 |cons y l=>
  cases l with
  |nil=>exact absurd h (by simp)
  |cons x t=>exact⟨y,x,t,rfl⟩
abbrev sA(a lw D:Addr)(day:Nat)(words:List Nat)(l:List Sg)(H:Hp):Nat->L2.St->Hp->Prop:=λi σ H'=>(∃v1 j n:Option V,σ=[some (.ref a),some (vn day),some (.ref lw),some (vn (A2 MS)),some (.ref D),v1,j,n])/\AN H H'/\H' D=some (.lst (Bs (gP words day (l.take i) []).reverse))/\wf (l.drop i) (gP words day (l.take i) []).length/\(∀x∈gP words day (l.take i) [],x<2 ^ MS.length)/\(gP words day (l.take i) []).length<=i
theorem K1(T:Txt w K mg):FB P w mg base T.VJ 2 (Zx T.CS):=by
 refine Ce T.VJ ET λax A am s H vs Q E hr h=>?_;obtain⟨a,dx,lt,lp,tl,lw,fs,e,day,words,qr,rfl,ha,qf,ae,ay,an,q⟩:=h;obtain⟨as,g1,aa⟩:=id ae;refine⟨_,(AD (B6 4 ET.nd (AZ AE)) (AD (Bc xo rfl (BE (AO (pv 0) rfl)) (DT rfl (Ak (Dz 5 ET.nd) (Ak (Dz 6 ET.nd) CY))) (AF (Ab (CA A5 (pv 5) (gs T.mB)) (AF (A3 (Cn xa xw xx BD (pv 4) (AA (Ap IH (pv 3) (OY xa zD zE Oh (pv 4))) AE)))) (AF (Ab (CA A5 (pv 5) (gs T.m7)) (AD (B6 7 ET.nd (OY xa zD zE Oh (pv 4))) (AF (A3 (Cn xa xw xx BD (pv 4) (AA (Ap Gm (OY xa zD zE Oh (pv 4)) (pv 7)) AE))))) (AF (Ab (CA A5 (pv 5) (gs T.bO)) (AD (B6 7 ET.nd (OY xa zD zE Oh (pv 4))) (AF (A3 (Cn xa xw xx BD (pv 4) (AA (Ap cu (OY xa zD zE Oh (pv 4)) (pv 7)) AE))))) (AF (Ab (CA A5 (pv 5) (gs T.O6)) (AF (A3 (Cn xa xw xx BD (pv 4) (AA (pv 6) AE)))) (AF (A3 (Cn xa xw xx BD (pv 4) (AA (Jb (A7 (CI hr (lg T) T.oh (AA (pv 5) (AA (pv 6) (AA (pv 1) (AA (pv 2) AE)))))) (pv 3) AL) AE))))))))))))) (AF (AK (Cv (pv 4) AL))))),?_⟩;dsimp only[A0,Cx.Ck];have ao:((post qr).map Fc).length=Vbptal.weight qr:=by rw[xH,De]
 have af:wf ((post qr).map Fc) 0:=by have:=Mg qr [] 0 trivial;rwa[yJ]at this
 have ag:=JA words day qr [];have O:∀s∈(post qr).map Fc,vN s:=λs hs=>by obtain⟨z,_,rfl⟩:=x5.mp hs;exact pF z
 generalize(post qr).map Fc=l at ae aa ao af ag O;refine AS ⟨xi _,λD nD=>?_⟩;have ap:=AI (o:=.lst []) nD _ _ ha;refine⟨_,rfl,a,_,dx,_,_,rfl,ap,T.DZ,T.EC,qf.dJ,lp,rfl,⟨_,Ah.of (AI nD _ _ g1)⟩,Bh (K:=K) (a:=lp) (xs:=as.map V.ref)
  (sA a lw D day words l H)
  ⟨⟨_,_,_,rfl⟩,AI nD,AB,af,by simp[gP],xi _⟩ (λi σ H' _ z=>Ah.of (z.2.1 _ _ g1)) ?_ ?_⟩
 .rintro i v σ H1 hv ⟨⟨v1,v2,v3,rfl⟩,s1,n,hw,ab,I⟩;obtain⟨ya,aq,rfl⟩:=BK hv;obtain⟨B,N,ah⟩:=Av i ya aa aq;have az:=(xP.mp N).1;have ar:l.drop i=B::l.drop (i+1):=by
   obtain⟨hi,rfl⟩:=xP.mp N;exact(AA2 ..).symm
  rw[ar]at hw;obtain⟨⟨ai,aj,J⟩,ak⟩:=hw;have L:gP words day (l.take (i+1)) []=se words day B (gP words day (l.take i) []):=by rw[take_succ N,E9];rfl
  have M:=oM (w:=words) (d:=day) ai aj J;have U:=sO (w:=words) (d:=day) (O B (xO N)) ab;have fin:∀(σ:L2.St)(xs:List V),(∃v1 v2 v3:Option V,σ=[some (.ref a),some (vn day),some (.ref lw),some (vn (A2 MS)),some (.ref D),v1,v2,v3])->xs=Bs (se words day B (gP words day (l.take i) [])).reverse->
    sA a lw D day words l H (i+1) σ (upd H1 D (.lst xs)):=λσ xs au av=>by
   unfold sA;rw[L];refine⟨au,λx o z=>?_,by rw[AB,av],by rw[M];exact ak,U,Om⟩;rw[AG (AH z nD)];exact s1 _ _ z
  generalize gP words day (l.take i) []=st at n ab I J fin M L U ak;have hsz:∀k:Nat,k<=i->k<sizeLine:=λk hk=>Az Om;refine⟨ya,_,rfl,Cd.of (s1 _ _ ah),rfl,_,_,rfl,_,_,rfl,rfl,?_⟩;refine Ca (decide (B=.not)) (λQ q=>⟨_,rfl,rfl,_,rfl,by rw[lE];exact q⟩) (λh=>?_) (λh=>?_)
  .have:=xI h;subst this;cases st with
   |nil=>exact absurd J (xI rfl)
   |cons x st=>
    rw[FL]at n;refine⟨_,rfl,.inl ⟨rfl,_,Ah.of n⟩,_,rfl,_,rfl,.inl ⟨rfl,_,Ah.of n⟩,D,_,vn x,rfl,rfl,n,Py _ _,_,_,rfl,rfl,D,_,_,rfl,rfl,AB,?_,?_⟩
    .rw[yQ,Am,zg];exact hsz _ (by simp at I;lia)
    .rw[CD,yQ];refine fin _ _ ⟨_,_,_,rfl⟩ ?_;show _=Bs ((A2 MS - x)::st).reverse;rw[FL];have hx:=ab x (xl ..);have:V.int ((A2 MS:Int) - (x:Int))=vn (A2 MS - x):=by
      show _=V.int _;rw[show((A2 MS - x:Nat):Int)=(A2 MS:Int) - (x:Int) by unfold A2 at*;lia]
     exact x3 (λz=>Bs st.reverse++[z]) this
  refine Ca (decide (B=.amp)) (λQ q=>⟨_,rfl,rfl,_,rfl,by rw[pT];exact q⟩) (λh=>?_) (λh3=>?_)
  .have:=xI h;subst this;obtain⟨y,x,st,rfl⟩:=kZ J;rw[FL]at n;refine AS ⟨_,rfl,.inl ⟨rfl,_,Ah.of n⟩,D,_,vn y,rfl,rfl,n,Py _ _,?_⟩;rw[yQ,FL];refine⟨_,rfl,.inl ⟨rfl,_,Ah.of AB⟩,_,rfl,.inl ⟨rfl,_,Ah.of AB⟩,D,_,vn x,rfl,rfl,AB,Py _ _,_,rfl,_,_,rfl,rfl,D,_,_,rfl,rfl,AB,?_,?_⟩
   .rw[yQ,Am,zg];exact hsz _ (by simp at I;lia)
   .rw[CD,CD,yQ];refine fin _ _ ⟨_,_,_,rfl⟩ ?_;show _=Bs ((x &&& y)::st).reverse;rw[FL];have:V.int (Builtin.bitAnd (x:Int) (y:Int))=vn (x &&& y):=by rw[EM]
    exact x3 (λz=>Bs st.reverse++[z]) this
  refine Ca (decide (B=.bar)) (λQ q=>⟨_,rfl,rfl,_,rfl,by rw[pU];exact q⟩) (λh=>?_) (λh4=>?_)
  .have:=xI h;subst this;obtain⟨y,x,st,rfl⟩:=kZ J;rw[FL]at n;refine AS ⟨_,rfl,.inl ⟨rfl,_,Ah.of n⟩,D,_,vn y,rfl,rfl,n,Py _ _,?_⟩;rw[yQ,FL];refine⟨_,rfl,.inl ⟨rfl,_,Ah.of AB⟩,_,rfl,.inl ⟨rfl,_,Ah.of AB⟩,D,_,vn x,rfl,rfl,AB,Py _ _,_,rfl,_,_,rfl,rfl,D,_,_,rfl,rfl,AB,?_,?_⟩
   .rw[yQ,Am,zg];exact hsz _ (by simp at I;lia)
   .rw[CD,CD,yQ];refine fin _ _ ⟨_,_,_,rfl⟩ ?_;show _=Bs ((x||| y)::st).reverse;rw[FL];have:V.int (Builtin.bitOr (x:Int) (y:Int))=vn (x||| y):=by rw[Ig]
    exact x3 (λz=>Bs st.reverse++[z]) this
  refine Ca (gN B) (λQ q=>⟨_,rfl,rfl,_,rfl,by rw[qA];exact q⟩) (λh=>?_) (λh5=>?_)
  .obtain⟨m,rfl⟩:=kN h;refine⟨_,rfl,.inl ⟨rfl,_,Ah.of n⟩,_,rfl,D,_,_,rfl,rfl,n,?_,fin _ _ ⟨_,_,_,rfl⟩ ?_⟩
   .rw[Am,zg];exact hsz _ I
   .exact(FL _ st).symm
  .have Y:mG B=true:=by
    cases B<;> first|rfl|(cases h;done)|(cases h3;done)|(cases h4;done)|(cases h5;done)|exact absurd rfl ai|exact absurd rfl aj
   have e0:se words day B st=(if vB words day B=true then A2 MS else 0)::st:=by
    cases B<;> first|(cases Y;done)|skip
    .rfl
    .show(if day<=_ then _ else _)::st=(if decide (day<=_)=true then _ else _)::st;simp only[yN]
    .show(if _<=day then _ else _)::st=(if decide (_<=day)=true then _ else _)::st;simp only[yN]
   refine⟨_,rfl,.inl ⟨rfl,_,Ah.of n⟩,?_⟩;refine(λ(hyp:∀R:V->Hp->Prop,R (vn (if vB words day B=true then A2 MS else 0)) H1->ph _ _ _ _ H1 R)=>hyp _ ?_) (λR r=>?_);rotate_left
   .refine RT (vB words day B) (λQ q=>⟨_,rfl,_,rfl,_,rfl,_,rfl,B,day,lw,words,rfl,Y,an.mono s1,_,rfl,q⟩) (λh=>?_) (λh=>?_)
    .rw[xQ h]at r;exact⟨_,rfl,r⟩
    .rw[xJ (by rw[h];decide)]at r;exact r
   refine⟨D,_,_,rfl,rfl,n,?_,fin _ _ ⟨_,_,_,rfl⟩ ?_⟩
   .rw[Am,zg];exact hsz _ I
   .rw[e0,FL]
 .rintro σ H1 ⟨⟨v1,v2,v3,rfl⟩,s1,n,_⟩;rw[xH,AR aa,xm,ag]at n;exact⟨_,rfl,D,_,_,_,rfl,rfl,Ah.of n,at_of (j:=0) rfl rfl,q H1 s1⟩
end
noncomputable def picked(p:Nat->Bool)(kvs:List (Nat×Nat)):List Nat:=(kvs.filter λj=>p j.1).map (·.2)
theorem OD(p:Nat->Bool):∀kvs:List (Nat×Nat),(picked p kvs).sum=V1 p kvs
 |[]=>rfl
 |x::l=>by
  rw[DK,<-OD p l];unfold picked;by_cases h:p x.1=true
  .rw[zH (p:=λj:Nat×Nat=>p j.1) h,xQ h];rfl
  .rw[zI (p:=λj:Nat×Nat=>p j.1) h,xJ h];simp
theorem SM{p:Nat->Bool}{kvs:List (Nat×Nat)}{i:Nat}{x:Nat×Nat}(h:kvs[i]?=some x):picked p (kvs.take (i+1))=picked p (kvs.take i)++(if p x.1=true then[x.2]else[]):=by
 unfold picked;rw[RG h,xX];by_cases j:p x.1=true
 .rw[xQ j,xQ j];rfl
 .rw[xJ j,xJ j];rfl
theorem dt(p:Nat->Bool)(kvs:List (Nat×Nat)):(picked p kvs).length<=kvs.length:=by unfold picked;rw[xH];exact yI _ _
theorem Qp.r(e:Rd H a (.dK kvs)):Qp H a (kV k) (C4 kvs k):=.inl ⟨kvs,k,e,rfl,rfl⟩
theorem lM(kvs:List (Nat×Nat)):(kvsOf kvs).map (·.2)=(kvs.map λx=>((x.2:Nat):Int)).map V.int:=by unfold kvsOf;rw[yg,yg];rfl
theorem nF(kvs:List (Nat×Nat)):(kvs.map λx=>((x.2:Nat):Int)).sum=((V1 (λ_=>true) kvs:Nat):Int):=by
 rw[<-OD];have:picked (λ_=>true) kvs=kvs.map (·.2):=by unfold picked;rw[List.filter_eq_self.mpr (λ_ _=>rfl)]
 rw[this,<-sum_nat,yg];rfl
section
variable{P:Program}{w:World}{K:PySem.W.Frag}{mg:Str->Option Value}{base:Heap}
inductive sd(C:Addr)(H:Hp)(a:Addr)(q:Vbptal.Query):Prop
 |mk (dx lt lp tl:Addr) (fs:List (Str×V)) (e:Nat) (_:H a=some (.ins C dx fs)) (_:YV fs e lt lp tl) (_:GI H lp ((post q).map Fc)) (_:Vbptal.weight q<=1000)
theorem sd.mono(h:sd C H a q)(s:AN H H'):sd C H' a q:=by obtain⟨dx,lt,lp,tl,fs,e,h1,h2,j,n⟩:=h;exact⟨dx,lt,lp,tl,fs,e,s _ _ h1,h2,j.mono s,n⟩
inductive Zy(T:Txt w K mg)(vs:List V)(H:Hp)(Q:VK)(z3_:XK):Prop
 |mk (a p ms:Addr) (q:Vbptal.Query) (x:Vbptal.Paper) (_:vs=[.ref a,.ref p,.ref ms]) (_:sd T.CS H a q) (_:F6 T.Bx H H p x) (_:x.marks.length<=3) (_:Yc T.An H ms) (_:∀H' t,AN H H'->H t=none->H' t=some (.tup [vn (Vbptal.yes q x),vn (Vbptal.meanings x).length])->Q (.ref t) H')
theorem SS(T:Txt w K mg):FB P w mg base T.VN 3 (Zy T):=by
 refine Ce T.VN ES λaA A ao s H vs Q E hr h=>?_;obtain⟨a,p,ms,B,x,rfl,⟨dx,lt,lp,tl,fs,e,ha,qf,ap,aq⟩,⟨J,lw,lk,d,kvs,aB,hp,pf,hw,hk,hd,hM⟩,h3,⟨N,dm,O,af⟩,q⟩:=h;refine⟨_,(AD (Y2 (i:=3) ES.nd rfl (Or.inr rfl) (CI hr (K1 T) T.OX (AA (pv 0) (AA (AO (pv 1) rfl) (AA (AO (pv 1) rfl) (AA (AO (pv 2) rfl) AE)))))) (AD (B6 4 ES.nd (Fm (l0 rfl) (by rfl) T.lA Qt (AA (Yi (Hw rfl ES.nd (Pt (AO (pv 1) rfl)) (show D1 ["query","paper","meant_sets","so","found","meant","count"] (A4 OE) _ [("meant",5),("count",6)]from CB Dk) (λ_ _ _ _ _=>(show PG _ _ (eC K 2 _)from(DT rfl (Ak (Dz 5 ES.nd) (Ak (Dz 6 ES.nd) CY))))) (λ_ _ _ _ _=>(Hq (CA IA (Ap Gm (pv 3) (pD (by exact gx hr) (show PE _ _ (oG K _ _)from AO (pv 2) rfl) (pv 5) (λ_ _=>rfl))) AL))) (λ_ _ _ _ _=>(pv 6)))) AE))) (AF (AK (FI (AA (pv 4) (AA (Fm (ft rfl) (by rfl) T.lA Qt (AA (jL (AO (pv 1) rfl)) AE)) AE))))))),?_⟩;dsimp only[A0,Cx.Ck];refine AS ⟨_,rfl,_,rfl,p,_,J,_,_,rfl,hp,T.BC,T.KA,pf.day,_,rfl,p,_,J,_,_,rfl,hp,T.BC,T.G0,pf.words,_,rfl,ms,_,N,_,_,rfl,O,T.Bz,T.EH,Z5 _,
  a,dx,lt,lp,tl,lw,fs,e,x.day,x.words,B,rfl,ha,qf,ap,aq,hw,λH1 U=>?_⟩
 have I:=U _ _ hd;have Y:=U _ _ hp;have ar:p≠d:=Dv Y I (by intro z;cases z);have as:ms≠d:=Dv (U _ _ O) I (by intro z;cases z);have aa:∀L,Rd (upd H1 d (.frz L (.dK (kvsOf kvs)))) dm (.dK (kvsOf QT)):=λL=>by
  by_cases z:dm=d
  .have e1:HO.dK (kvsOf kvs)=.dK (kvsOf QT):=by
    have h2:=U _ _ af;rw[z,I]at h2;exact xn h2
   rw[z,e1];exact .inr ⟨L,AB⟩
  .exact .inl (by rw[AG z];exact U _ _ af)
 refine AS ⟨d,_,I,trivial,λL=>⟨_,rfl,p,_,J,_,_,rfl,by rw[AG ar];exact Y,T.BC,T.Ea,pf.means,d,L,_,rfl,AB,λD hD=>Tc (d:=d) (o:=L) (kvs:=kvsOf kvs)
  (λi H'=>AN (upd H1 d (.frz L (.dK (kvsOf kvs)))) H'/\LI H' D (picked (Vc x.words x.day B) (kvs.take i))) ⟨AI hD,AB⟩ (λi H' z=>z.1 _ _ AB) ?_ ?_⟩⟩
 .rintro i k v H2 T0 au ⟨s2,hl⟩ nT;obtain⟨y,hy,rfl,rfl⟩:=Qe au;have av:y.1∈MS:=hM.da h3 (x5.mpr ⟨y,xO hy,rfl⟩);obtain⟨j,hj⟩:=y6 av;have ax:D≠T0:=AH hl nT;have M:=s2.trans (AI (o:=.tup [kV (Sum.inl ((y.1:Nat):Int)),vn y.2]) nT);have ay:Rd (upd H2 T0 (.tup [kV (Sum.inl ((y.1:Nat):Int)),vn y.2])) dm (.dK (kvsOf QT)):=by
   rcases aa L with z|⟨o,z⟩
   .exact .inl (M _ _ z)
   .exact .inr ⟨o,M _ _ z⟩
  have ag:C4 (kvsOf QT) (Sum.inl ((y.1:Nat):Int))=some (vn (2 ^ j)):=by rw[RO,kI hj];rfl
  have ah:(upd H2 T0 (.tup [kV (Sum.inl ((y.1:Nat):Int)),vn y.2])) ms=some (.ins T.An N (om dm)):=M _ _ (by rw[AG as];exact U _ _ O);refine⟨T0,_,rfl,Cd.of AB,rfl,_,_,rfl,_,_,rfl,rfl,rfl,_,rfl,_,rfl,ms,_,N,_,_,rfl,ah,T.Bz,T.Cr,Yu _,_,rfl,dm,vn (2 ^ j),rfl,ag▸Qp.r ay,_,_,rfl,rfl,rfl,_,rfl,?_⟩;show if(!decide (V.int (Builtin.bitAnd ((Fu x.words x.day B:Nat):Int) ((2 ^ j:Nat):Int))=V.int 0))=true then _ else _
  rw[Zb];have ai:decide (Fu x.words x.day B &&& 2 ^ j≠0)=Vc x.words x.day B y.1:=by
   have h1:=BA (Vc x.words x.day B) MS j;rw[hj]at h1;have h1:(Fu x.words x.day B).testBit j=Vc x.words x.day B y.1:=h1;rw[<-h1];by_cases z:Fu x.words x.day B &&& 2 ^ j=0
   .rw[xV (λq=>q z),(Mi _ _).mp z]
   .rw[xR z];cases w2:(Fu x.words x.day B).testBit j with
    |true=>rfl
    |false=>exact absurd ((Mi _ _).mpr w2) z
  rw[ai];have aj:LI (upd H2 T0 (.tup [kV (Sum.inl ((y.1:Nat):Int)),vn y.2])) D (picked (Vc x.words x.day B) (kvs.take i)):=by unfold LI;rw[AG ax];exact hl
  have ak:=dt (Vc x.words x.day B) (kvs.take i);have aC:kvs.length<=1728:=by
   have h5:=hM.len;have h6:12 ^ x.marks.length<=12 ^ 3:=zb Dc h3;have h7:(12:Nat) ^ 3=1728:=by decide
   lia
  refine Fi (λh=>⟨_,rfl,_,aj,?_,λb o e=>?_,?_⟩) (λh=>⟨M,?_⟩)
  .rw[Am];rw[xt]at ak;exact Az Om
  .rw[AG (AH e hD)];exact M b o e
  .unfold LI;rw[AB,SM hy,xQ h,B4]
  .rw[SM hy,xJ h,yJ];exact aj
 .rintro H2 ⟨s2,hl⟩;rw[Gb,xm]at hl;have ab:AN H1 (upd H2 d (.dK (kvsOf kvs))):=sU I s2;have az:D≠d:=λe=>by subst e;rw[AB]at hD;cases hD
  refine⟨s2 _ _ AB,D,(picked (Vc x.words x.day B) kvs).map λ(n:Nat)=>(n:Int),rfl,?_,?_⟩
  .refine Ah.of ?_;rw[AG az,<-Fn];exact hl
  .have ey:((picked (Vc x.words x.day B) kvs).map λ(n:Nat)=>(n:Int)).sum=((Vbptal.yes B x:Nat):Int):=by
    rw[sum_nat,OD,nP hM]
   rw[ey];have ae:(upd H2 d (.dK (kvsOf kvs))) d=some (.dK (kvsOf kvs)):=AB;have am:=ab _ _ Y;generalize upd H2 d (.dK (kvsOf kvs))=H3 at ab ae am⊢;refine⟨_,rfl,_,rfl,p,_,J,_,_,rfl,am,T.BC,T.Ea,pf.means,d,_,rfl,Rd.of ae,λpv an=>⟨pv,d,kvsOf kvs,kvs.map λx=>((x.2:Nat):Int),rfl,AB,Rd.of (AI an _ _ ae),lM kvs,AW (by show 2<=1000;decide),λt nt=>?_⟩⟩;rw[nF,<-pB hM];have M:=U.trans (ab.trans (AI (o:=c5 pv d) an));exact q _ t (M.trans (AI nt)) (M.free nt) AB
def qc(H:Hp)(a:Addr)(y:Nat×Nat):Prop:=H a=some (.tup [vn y.1,vn y.2])
inductive S0(vs:List V)(H:Hp)(Q:VK)(z3_:XK):Prop
 |mk (t:Addr) (a b:Nat) (_:vs=[.ref t]) (_:qc H t (a,b)) (_:0<b) (_:a<=b) (_:b<=100000) (_:∀H' p,AN H H'->H p=none->LI H' p [a / Nat.gcd b a,b / Nat.gcd b a]->Q (.ref p) H')
abbrev wU(t:Addr)(a b:Nat)(H:Hp):Nat->L2.St->Hp->Prop:=λn σ H'=>H'=H/\∃(g l:Nat)(v:Option V),σ=[some (.ref t),some (vn g),some (vn l),v]/\n=l/\0<g/\g<=b/\l<=b/\Nat.gcd g l=Nat.gcd b a
theorem KW(T:Txt w K mg):FB P w mg base T.Ky 1 S0:=by
 refine Ce T.Ky Cg λN A L s H vs Q E hr h=>?_;obtain⟨t,a,b,rfl,B,O,M,U,q⟩:=h;have B:H t=some (.tup [vn a,vn b]):=B;refine⟨_,(AD (B6 1 Cg.nd (Gs Em (pv 0) AL (λ_ _=>rfl))) (AD (B6 2 Cg.nd (Gs Em (pv 0) AL (λ_ _=>rfl))) (AD (MK xo (CA HV (pv 2) AL) (AD (B6 3 Cg.nd (Ap rN (pv 1) (pv 2))) (AD (B6 1 Cg.nd (pv 2)) (AF (B6 2 Cg.nd (pv 3)))))) (AF (AK (AZ (AA (Ap ZM (Gs Em (pv 0) AL (λ_ _=>rfl)) (pv 1)) (AA (Ap ZM (Gs Em (pv 0) AL (λ_ _=>rfl)) (pv 1)) AE)))))))),?_⟩;dsimp only[A0,Cx.Ck];refine AS ⟨_,rfl,t,_,_,_,rfl,rfl,Cd.of B,at_of (j:=1) rfl rfl,?_⟩;refine AS ⟨_,rfl,t,_,_,_,rfl,rfl,Cd.of B,at_of (j:=0) rfl rfl,?_⟩;refine⟨(wU t a b H),⟨_,rfl,b,a,none,rfl,rfl,O,xZ _,M,rfl⟩,?_⟩;rintro n σ H' ⟨rfl,g,l,v,rfl,rfl,hg,Y,I,z⟩;refine⟨_,rfl,_,_,rfl,rfl,_,rfl,?_⟩;show if decide (((n:Nat):Int) > ((0:Nat):Int))=true then _ else _
 rw[show decide (((n:Nat):Int) > ((0:Nat):Int))=decide (0<n)from IS 0 n];by_cases J:0<n
 .rw[xR J];refine EG ⟨_,λ_ _ h=>h,?_⟩;refine AS ⟨_,rfl,_,rfl,_,_,rfl,rfl,(by show(0:Int)< (n:Int);lia),?_⟩;refine AS ⟨_,rfl,?_⟩;refine⟨_,rfl,g % n,ACG _ J,rfl,n,g % n,some (vn (g % n)),rfl,rfl,J,I,xr (AAP (ACG _ J)) I,?_⟩;rw[<-z,Nat.gcd_comm n (g % n),<-Nat.gcd_rec,Nat.gcd_comm]
 .have h0:n=0:=by lia
  subst h0;rw[xV J];rw[Nat.gcd_zero_right]at z;refine ED ⟨_,rfl,t,_,_,_,rfl,rfl,Cd.of B,at_of (j:=0) rfl rfl,_,rfl,_,_,rfl,rfl,⟨Om,Om⟩,_,rfl,t,_,_,_,rfl,rfl,Cd.of B,at_of (j:=1) rfl rfl,_,rfl,_,_,rfl,rfl,⟨Om,Om⟩,AW (by show 2<=1000;decide),λp np=>?_⟩;rw[<-z]at q;refine q _ p (AI np) np ?_;unfold LI;rw[AB];rfl
inductive wR(T:Txt w K mg)(H:Hp)(Mu:List Addr)(qs:List (Option (Addr×Addr)))(k:Nat)(x:Vbptal.Asked):Prop
 |mk (a t:Addr) (_:qs[k]?=some (some (a,t))) (_:(qs.map qV)[k]?=some (.ref a)) (dxq lt lpc:Addr) (fsq:List (Str×V)) (_:CE.Bl Mu H a=some (.ins T.CS dxq fsq)) (_:YV fsq x.edition lt lpc t) (_:LI (CE.Bl Mu H) lt x.text) (_:GI (CE.Bl Mu H) lpc ((post x.query).map Fc)) (_:LI H t x.told)
section
variable{T:Txt w K mg}{F:List Addr}{H:Hp}{r:Addr}{s:Vbptal.State}{Mu:List Addr}{dx le lp lq lm:Addr}{es ps:List Addr}{qs:List (Option (Addr×Addr))}{fs:List (Str×V)}
theorem BX.va(R:BX T F H r s Mu dx le lp lq lm es ps qs fs){k:Nat}{x:Vbptal.Asked}(J:s.asked[k]?=some (some x)):wR T H Mu qs k x:=by
 obtain⟨q,B,I⟩:=Bu k _ R.WJ J;cases q with
 |none=>exact absurd I id
 |some at_=>obtain⟨a,t⟩:=at_;obtain⟨j,lt,n,z,h1,h2,L,M,N⟩:=I;exact⟨a,t,B,by rw[xh,B];rfl,j,lt,n,z,h1,h2,L,M,N⟩
theorem BX.u4(R:BX T F H r s Mu dx le lp lq lm es ps qs fs)(ok:B8 s){k:Nat}{x:Vbptal.Asked}(z:s.asked[k]?=some (some x)):∃a,(qs.map qV)[k]?=some (.ref a)/\sd T.CS H a x.query:=by obtain⟨a,t,_,h1,j,lt,n,q,h2,B,_,I,_⟩:=R.va z;have:=(ok.KU x (xO z)).wt;exact⟨a,h1,j,lt,n,t,q,x.edition,Af _ _ _ _ h2,B,I.mono (Af _ _),Om⟩
theorem F6.pa(h:F6 C H (CE.Bl Mu H) a p):F6 C H H a p:=h.mono (λ_ e=>e) (Af _ _)
end
inductive uV(H:Hp)(a:Addr)(l:List (Nat×Nat)):Prop
 |mk (as:List Addr) (_:H a=some (.lst (as.map V.ref))) (_:Paired (qc H) as l)
noncomputable def E4(s:Vbptal.State)(q:Vbptal.Query):List (Nat×Nat):=s.papers.map λx=>(Vbptal.yes q x,(Vbptal.meanings x).length)
inductive Vu(T:Txt w K mg)(vs:List V)(H:Hp)(Q:VK)(z3_:XK):Prop
 |mk (F:List Addr) (r:Addr) (s:Vbptal.State) (Mu:List Addr) (k:Nat) (x:Vbptal.Asked) (_:vs=[.ref r,vn k]) (_:Rep T F H r s Mu) (_:B8 s) (_:s.asked[k]?=some (some x)) (_:∀H' p,AN H H'->H p=none->uV H' p (E4 s x.query)->Q (.ref p) H')
theorem IG(T:Txt w K mg):FB P w mg base T.QX 4 (Vu T):=by
 refine Ce T.QX IL λaf A M s H vs Q E hr h=>?_;obtain⟨F,r,st,Mu,k,x,rfl,hR,ok,hx,q⟩:=h;obtain⟨dx,le,lp,lq,lm,es,ps,qs,fs,R⟩:=id hR;obtain⟨a,N,hQ⟩:=R.u4 ok hx;have hM:=R.ms.mono (Af _ _);have ag:=ok.Vk;refine⟨_,(AF (AK (Hw rfl IL.nd (BE (AO (pv 0) rfl)) (show D1 ["records","k","paper"] (A4 Jx) _ [("paper",2)]from CB Dk) (λ_ _ _ _ _=>(Dz 2 IL.nd)) (λ_ _ _ _ _=>Hz) (λ_ _ _ _ _=>(CI hr (SS T) T.VU (AA (show PE _ _ (sF (qg K) _ _)from Cv (show PE _ _ (oG K _ _)from AO (pv 0) rfl) (pv 1)) (AA (pv 2) (AA (show PE _ _ (oG K _ _)from AO (pv 0) rfl) AE)))))))),?_⟩;dsimp only[A0,Cx.Ck];refine⟨_,rfl,r,_,dx,_,_,rfl,R.BP,T.AM,T.Aq,R.rf.Sn,lp,rfl,⟨_,Ah.of R.pl⟩,λD O=>FP (K:=K) (a:=lp) (xs:=ps.map V.ref)
  (λi H'=>AN H H'/\∃bs:List Addr,H' D=some (.lst (bs.map V.ref))/\Paired (qc H') bs ((E4 st x.query).take i)) ⟨AI O,[],AB,.nil⟩ (λi H' _ z=>Ah.of (z.1 _ _ R.pl)) ?_ ?_⟩
 .rintro i v H1 hv ⟨B,bs,U,n⟩;obtain⟨Y,aa,rfl⟩:=BK hv;obtain⟨y,hy,hP⟩:=Av i Y R.Sn aa;have ah:=(xP.mp hy).1;have ab:(E4 st x.query)[i]?=some (Vbptal.yes x.query y,(Vbptal.meanings y).length):=by unfold E4;rw[xh,hy];rfl
  have J:=(ok.Fy y (xO hy)).Wh;have ae:F6 T.Bx H1 H1 Y y:=(F6.pa hP).mono (λo e=>B _ _ e) B;refine⟨rfl,SA ?_⟩;refine⟨_,rfl,r,_,dx,_,_,rfl,B _ _ R.BP,T.AM,T.BG,R.rf.WJ,_,rfl,lq,_,_,_,rfl,rfl,Ah.of (B _ _ R.ql),at_of (j:=k) rfl N,_,rfl,_,rfl,r,_,dx,_,_,rfl,B _ _ R.BP,T.AM,T.Br,R.rf.uy,
   a,Y,lm,x.query,y,rfl,hQ.mono B,ae,J,hM.mono B,λH2 t L n2 ht=>?_⟩
  have ai:bs.length=min i (E4 st x.query).length:=by rw[AR n,xt]
  have I:=L _ _ U;refine⟨_,I,?_,λb o z=>?_,bs++[t],?_,?_⟩
  .rw[xH];exact Az Om
  .rw[AG (AH z O)];exact L _ _ (B _ _ z)
  .rw[AB,xX];rfl
  .rw[take_succ ab];have tD:t≠D:=Dv ht I (by intro z;cases z);refine BR (Paired.BO (λz y' hz=>?_) n) ((AG tD).trans ht);exact(AG (Dv (L _ _ hz) I (by intro q;cases q))).trans (L _ _ hz)
 .rintro H1 ⟨B,bs,U,n⟩;have e1:(ps.map V.ref).length=(E4 st x.query).length:=by unfold E4;rw[R.ic,xH]
  rw[e1,xm]at n;exact q H1 D B O ⟨bs,U,n⟩
inductive Wi(C:Addr)(vs:List V)(H:Hp)(Q:VK)(z3_:XK):Prop
 |mk (a dx lt lp tl:Addr) (fs:List (Str×V)) (e:Nat) (t:List Nat) (_:vs=[.ref a]) (_:H a=some (.ins C dx fs)) (_:YV fs e lt lp tl) (_:LI H lt t) (_:t.length<=500) (_:Ro H ((e:Int)::Vbptal.ints t) Q)
theorem Vt(T:Txt w K mg):FB P w mg base T.PV 1 (Wi T.CS):=by
 refine Ce T.PV Vx λI A j s H vs Q E J h=>?_;obtain⟨a,dx,lt,lp,tl,fs,e,t,rfl,z,B,n,L,q⟩:=h;refine⟨_,(AF (AK (Ap DF (AZ (AA (AO (pv 0) rfl) AE)) (AO (pv 0) rfl)))),?_⟩;dsimp only[A0,Cx.Ck];refine⟨_,rfl,a,_,dx,_,_,rfl,z,T.DZ,T.JO,B.wq,AW (by show 1<=1000;decide),λp np=>⟨_,rfl,a,_,dx,_,_,rfl,AI np _ _ z,T.DZ,T.Nm,B.text,p,lt,_,_,rfl,rfl,AB,n.mono (AI np),?_,q.lst (AI np) ?_⟩⟩
 .rw[Am];exact AW (by show 1+_<=_;lia)
 .rw[Fn];rfl
theorem FH{s:Vbptal.State}{k:Nat}{x:Vbptal.Asked}{f:Vbptal.Asked->Vbptal.State×Vbptal.Answer}(h:s.asked[k]?=some (some x)):Vbptal.onAsked s (k:Int) f=f x:=by unfold Vbptal.onAsked Vbptal.askedAt;rw[yG,h];rfl
theorem G6{s:Vbptal.State}{k:Nat}{f:Vbptal.Asked->Vbptal.State×Vbptal.Answer}(h:s.asked[k]?=some none):Vbptal.onAsked s (k:Int) f=(s,[-8]):=by unfold Vbptal.onAsked Vbptal.askedAt;rw[yG,h];rfl
theorem Hh(ok:GQ p):(Vbptal.meanings p).length<=1728:=by
 have:∀l:List Nat,(Vbptal.choices l).length<=12 ^ l.length:=by
  intro l
  induction l with
  |nil=>simp[Vbptal.choices]
  |cons m l j=>unfold Vbptal.choices;rw[List.length_flatMap];simp only[xH];rw[Q0];have:=Ge m;rw[xg,za,AAk];exact Nat.mul_le_mul j this
 unfold Vbptal.meanings;rw[xH];have h1:=this p.marks;have h2:12 ^ p.marks.length<=12 ^ 3:=zb Dc ok.Wh;have n:(12:Nat) ^ 3=1728:=by decide
 lia
inductive UM(T:Txt w K mg)(vs:List V)(H:Hp)(Q:VK)(z3_:XK):Prop
 |mk (F:List Addr) (r:Addr) (s:Vbptal.State) (Mu:List Addr) (k p:Nat) (x:Vbptal.Asked) (_:vs=[.ref r,vn k,vn p]) (_:Rep T F H r s Mu) (_:B8 s) (_:s.asked[k]?=some (some x)) (_:Ro H (Vbptal.act s (.likely (k:Int) (p:Int))).2 Q)
theorem UW(T:Txt w K mg):FB P w mg base T.NX 4 (UM T):=by
 refine Ce T.NX Uh λO A z s H vs Q E B h=>?_;obtain⟨F,r,st,Mu,k,p,x,rfl,L,ok,M,q⟩:=h;obtain⟨dx,le,lp,lq,lm,es,ps,qs,fs,R⟩:=id L;obtain⟨a,I,U⟩:=R.u4 ok M;have Y:=R.ms.mono (Af _ _);rw[show Vbptal.act st (.likely (k:Int) (p:Int))=_ from FH M]at q;refine⟨_,(AD (Ab (Ba (A7 (HN B (pv 0) T.AM T.B2 (B3 T) (AA (pv 2) AE)))) (AF (AK (AZ (AA (gi T.E8) AE)))) AQ) (AF (AK (CI B (KW T) T.LL (AA (CI B (SS T) T.VU (AA (Cv (AO (pv 0) rfl) (pv 1)) (AA (Cv (AO (pv 0) rfl) (pv 2)) (AA (AO (pv 0) rfl) AE)))) AE))))),?_⟩;dsimp only[A0,Cx.Ck];refine AU (!decide (p<st.papers.length)) (λQ q=>⟨_,rfl,r,dx,_,rfl,R.BP,R.rf.n4,_,rfl,F,r,st,Mu,p,rfl,L,_,rfl,q⟩) (λh=>?_) (λh=>?_)
 .rw[MO (by simpa using h)]at q;exact⟨AW Dc,q.lst (AN.refl _) rfl⟩
 obtain⟨y,J⟩:=HE (l:=st.papers) (i:=p) (by simpa using h);rw[IY J]at q;obtain⟨b,hb,hv,hP⟩:=R.pap J;have n:=ok.Fy y (xO J);refine⟨_,rfl,r,_,dx,_,_,rfl,R.BP,T.AM,T.BG,R.rf.WJ,_,rfl,lq,_,_,_,rfl,rfl,Ah.of R.ql,at_of (j:=k) rfl I,_,rfl,r,_,dx,_,_,rfl,R.BP,T.AM,T.Aq,R.rf.Sn,_,rfl,lp,_,_,_,rfl,rfl,Ah.of R.pl,at_of (j:=p) rfl hv,
  _,rfl,r,_,dx,_,_,rfl,R.BP,T.AM,T.Br,R.rf.uy,a,b,lm,x.query,y,rfl,U,F6.pa hP,n.Wh,Y,λH1 t N n1 ht=>?_⟩
 have aa:=Hh n;refine⟨t,Vbptal.yes x.query y,(Vbptal.meanings y).length,rfl,ht,Ei n,df _ _,Om,λH2 p2 s2 n2 hl=>q H2 p2 (N.trans s2) (N.free n2) ?_⟩;have e:=Im (q:=x.query) n;rw[e];exact hl.z
end
theorem IU(s:Vbptal.State)(q:Vbptal.Query)(n:Nat):Vbptal.papersWith s q n=(List.range s.papers.length).filter λi=>(s.papers[i]?).any λp=>Vbptal.found q p==n:=rfl
theorem gB(h:Vbptal.yes q y=(Vbptal.meanings y).length):Vbptal.found q y=2:=by unfold Vbptal.found;dsimp only;rw[xQ h]
theorem ox(h:¬Vbptal.yes q y=(Vbptal.meanings y).length)(h2:Vbptal.yes q y=0):Vbptal.found q y=0:=by unfold Vbptal.found;dsimp only;rw[xJ h,xQ h2]
theorem ny(h:¬Vbptal.yes q y=(Vbptal.meanings y).length)(h2:¬Vbptal.yes q y=0):Vbptal.found q y=1:=by unfold Vbptal.found;dsimp only;rw[xJ h,xJ h2]
theorem er(h:¬Vbptal.yes q y=(Vbptal.meanings y).length):Vbptal.found q y≠2:=by unfold Vbptal.found;dsimp only;rw[xJ h];split<;> decide
theorem OT(p:Nat->Bool)(i:Nat):((List.range i).filter p).length<=i:=by have:=yI p (List.range i);rwa[yl]at this
section
variable{P:Program}{w:World}{K:PySem.W.Frag}{mg:Str->Option Value}{base:Heap}
inductive V7(T:Txt w K mg)(vs:List V)(H:Hp)(Q:VK)(z3_:XK):Prop
 |mk (F:List Addr) (r:Addr) (s:Vbptal.State) (Mu:List Addr) (k:Nat) (x:Vbptal.Asked) (_:vs=[.ref r,vn k]) (_:Rep T F H r s Mu) (_:B8 s) (_:s.asked[k]?=some (some x)) (_:Ro H (Vbptal.act s (.find (k:Int))).2 Q)
abbrev vE(r ds j:Addr)(k:Nat)(n:Hp)(st:Vbptal.State)(x:Vbptal.Asked):Nat->L2.St->Hp->Prop:=λi σ H'=>(∃v1 q:Option V,σ=[some (.ref r),some (vn k),some (.ref ds),some (.ref j),v1,q])/\(∀b o,b≠ds->b≠j->n b=some o->H' b=some o)/\LI H' ds ((List.range i).filter λi=>(st.papers[i]?).any λp=>Vbptal.found x.query p==2)/\LI H' j ((List.range i).filter λi=>(st.papers[i]?).any λp=>Vbptal.found x.query p==1)
theorem Wo(T:Txt w K mg):FB P w mg base T.QM 5 (V7 T):=by
 refine Ce T.QM D4 λan A ae s H vs Q E hr h=>?_;obtain⟨F,r,st,Mu,k,x,rfl,hR,ok,hx,q⟩:=h;rw[show Vbptal.act st (.find (k:Int))=_ from FH hx]at q;have q:Ro H (Vbptal.counted (Vbptal.papersWith st x.query 2)++Vbptal.counted (Vbptal.papersWith st x.query 1)) Q:=q;rw[IU,IU]at q;have ao:=ok.Vk;refine⟨_,(AD (B6 2 D4.nd (AZ AE)) (AD (B6 3 D4.nd (AZ AE)) (AD (Bc xo rfl (PN rfl T.EU (AA (CI hr (IG T) T.Jv (AA (pv 0) (AA (pv 1) AE))) AE)) (DT rfl (Ak (Dz 4 D4.nd) (Ak (Dz 5 D4.nd) CY))) (AF (Ab (CA A5 (Gs Em (pv 5) AL (λ_ _=>rfl)) (Gs Em (pv 5) AL (λ_ _=>rfl))) (AF (A3 (Cn xa xw xx BD (pv 2) (AA (pv 4) AE)))) (AF (Ab (CA HV (Gs Em (pv 5) AL (λ_ _=>rfl)) AL) (AF (A3 (Cn xa xw xx BD (pv 3) (AA (pv 4) AE)))) AQ))))) (AF (AK (Ap DF (CI hr (Cs T) T.DQ (AA (pv 2) AE)) (CI hr (Cs T) T.DQ (AA (pv 3) AE)))))))),?_⟩;dsimp only[A0,Cx.Ck];refine AS ⟨xi _,λds n1=>?_⟩;refine AS ⟨xi _,λL n2=>?_⟩;have s1:AN H (upd H ds (.lst [])):=AI n1;have nm:H L=none:=s1.free n2;have O:ds≠L:=AH (H:=upd H ds (.lst [])) AB n2;have s2:=s1.trans (AI (o:=.lst []) n2);have g1:LI (upd (upd H ds (.lst [])) L (.lst [])) ds []:=by unfold LI;rw[AG O,AB];rfl
 have g2:LI (upd (upd H ds (.lst [])) L (.lst [])) L []:=AB;generalize upd (upd H ds (.lst [])) L (.lst [])=H2 at s2 g1 g2⊢;refine⟨_,rfl,_,rfl,F,r,st,Mu,k,x,rfl,hR.mono s2,ok,hx,λH3 p3 U n3 af=>?_⟩;obtain⟨as,gp,pr⟩:=id af;have ag:p3≠ds:=λz=>by rw[z]at n3;unfold LI at g1;rw[n3]at g1;cases g1
 have ah:p3≠L:=λz=>by rw[z]at n3;unfold LI at g2;rw[n3]at g2;cases g2
 have Y:(as.map V.ref).length=st.papers.length:=by rw[xH,AR pr];unfold E4;rw[xH]
 refine⟨p3,_,rfl,Ah.of gp,L6 (K:=K) (a:=p3) (xs:=as.map V.ref)
  (vE r ds L k H3 st x)
  ⟨⟨_,_,rfl⟩,λ_ _ _ _ z=>z,g1.mono U,g2.mono U⟩ (λi σ H' _ z=>Ah.of (z.2.1 _ _ ag ah gp)) ?_ ?_⟩
 .rintro i v σ H4 T0 hv ⟨⟨v1,v2,rfl⟩,hk,h5,h6⟩ nT;obtain⟨I,ai,rfl⟩:=BK hv;obtain⟨sv,J,M⟩:=Av i I pr ai;obtain⟨y,hy,rfl⟩:∃y,st.papers[i]?=some y/\sv=(Vbptal.yes x.query y,(Vbptal.meanings y).length):=by
   unfold E4 at J;rw[xh]at J;cases z:st.papers[i]? with
   |none=>rw[z]at J;cases J
   |some y=>rw[z]at J;exact⟨y,rfl,(xn J).symm⟩
  have ap:=(xP.mp hy).1;have M:H3 I=some (.tup [vn (Vbptal.yes x.query y),vn (Vbptal.meanings y).length]):=M;have aj:I≠ds:=Dv M (g1.mono U) (by intro z;cases z);have ak:I≠L:=Dv M (g2.mono U) (by intro z;cases z);have aa:=hk _ _ aj ak M;have B:(upd H4 T0 (.tup [.int (i:Nat),.ref I])) I=some (.tup [vn (Vbptal.yes x.query y),vn (Vbptal.meanings y).length]):=AI nT _ _ aa;have f2:∀n,((st.papers[i]?).any λp=>Vbptal.found x.query p==n)=(Vbptal.found x.query y==n):=λn=>by rw[hy];rfl
  have l5:=h5.mono (AI (o:=.tup [.int (i:Nat),.ref I]) nT);have l6:=h6.mono (AI (o:=.tup [.int (i:Nat),.ref I]) nT);have k5:∀b o,b≠ds->b≠L->H3 b=some o->(upd H4 T0 (.tup [.int (i:Nat),.ref I])) b=some o:=λb o h1 h2 z=>AI nT _ _ (hk b o h1 h2 z);have c2:=OT (λi=>(st.papers[i]?).any λp=>Vbptal.found x.query p==2) i;have c1:=OT (λi=>(st.papers[i]?).any λp=>Vbptal.found x.query p==1) i;refine⟨T0,_,rfl,Cd.of AB,rfl,_,_,rfl,_,_,rfl,rfl,?_⟩;generalize upd H4 T0 (.tup [.int (i:Nat),.ref I])=H5 at B l5 l6 k5⊢;refine Ca (decide (Vbptal.yes x.query y=(Vbptal.meanings y).length)) (λQ q=>⟨_,rfl,I,_,_,_,rfl,rfl,Cd.of B,at_of (j:=0) rfl rfl,_,rfl,I,_,_,_,rfl,rfl,Cd.of B,at_of (j:=1) rfl rfl,rfl,_,rfl,IE q⟩) (λh=>?_) (λh=>?_)
  .have N:=gB (xI h);refine⟨_,rfl,.inl ⟨rfl,_,Ah.of l5⟩,_,rfl,ds,_,_,rfl,rfl,l5,?_,⟨_,_,rfl⟩,λb o h1 h2 z=>by rw[AG h1];exact k5 b o h1 h2 z,?_,?_⟩
   .rw[Am];exact Az Om
   .unfold LI;rw[AB,JH (p:=λi=>(st.papers[i]?).any λp=>Vbptal.found x.query p==2) (by rw[f2,N];rfl),B4]
   .unfold LI;rw[AG (x8 O),Gh (p:=λi=>(st.papers[i]?).any λp=>Vbptal.found x.query p==1) (by rw[f2,N];decide)];exact l6
  .have ab:=xc h;refine Ca (decide (0<Vbptal.yes x.query y)) (λQ q=>⟨_,rfl,I,_,_,_,rfl,rfl,Cd.of B,at_of (j:=0) rfl rfl,_,_,rfl,rfl,_,rfl,?_⟩) (λh2=>?_) (λh2=>?_)
   .rw[<-IS]at q;exact q
   .have N:=ny ab (by have:=xI h2;lia);refine⟨_,rfl,.inl ⟨rfl,_,Ah.of l6⟩,_,rfl,L,_,_,rfl,rfl,l6,?_,⟨_,_,rfl⟩,λb o h1 h2 z=>by rw[AG h2];exact k5 b o h1 h2 z,?_,?_⟩
    .rw[Am];exact Az Om
    .unfold LI;rw[AG O,Gh (p:=λi=>(st.papers[i]?).any λp=>Vbptal.found x.query p==2) (by rw[f2,N];decide)];exact l5
    .unfold LI;rw[AB,JH (p:=λi=>(st.papers[i]?).any λp=>Vbptal.found x.query p==1) (by rw[f2,N];rfl),B4]
   .have N:=ox ab (by have:=xc h2;lia);refine⟨⟨_,_,rfl⟩,k5,?_,?_⟩
    .rw[Gh (p:=λi=>(st.papers[i]?).any λp=>Vbptal.found x.query p==2) (by rw[f2,N];decide)];exact l5
    .rw[Gh (p:=λi=>(st.papers[i]?).any λp=>Vbptal.found x.query p==1) (by rw[f2,N];decide)];exact l6
 .rintro σ H4 ⟨⟨v1,v2,rfl⟩,hk,h5,h6⟩;rw[Y]at h5 h6;have am:AN H H4:=λb o z=>hk b o (AH z n1) (AH z nm) (U _ _ (s2 _ _ z));have c2:=OT (λi=>(st.papers[i]?).any λp=>Vbptal.found x.query p==2) st.papers.length;have c1:=OT (λi=>(st.papers[i]?).any λp=>Vbptal.found x.query p==1) st.papers.length;generalize((List.range st.papers.length).filter λi=>(st.papers[i]?).any λp=>Vbptal.found x.query p==2)=la at*;generalize((List.range st.papers.length).filter λi=>(st.papers[i]?).any λp=>Vbptal.found x.query p==1)=lb at*;refine⟨_,rfl,ds,_,rfl,h5.z,by rw[A9];lia,λH6 p6 s6 n6 g6=>⟨_,rfl,L,_,rfl,(h6.mono s6).z,by rw[A9];lia,λH7 p7 s7 n7 g7=>?_⟩⟩;rw[<-DE]at g6 g7;refine⟨p6,p7,_,_,rfl,rfl,g6.mono s7,g7,?_,q.lst (am.trans (s6.trans s7)) ?_⟩
  .rw[xH,xH,A6,A6];exact AW Om
  .rw[xX]
end
theorem YD(a b:List (Option (Addr×Addr))):EY (a++b)=EY a++EY b:=List.filterMap_append ..
theorem XH(h:qs[k]?=some q):EY qs=EY (qs.take k)++(EY [q]++EY (qs.drop (k+1))):=by
 conv=>lhs;rw[EO h]
 rw[YD]
 congr 1
 exact YD [q] _
theorem gn{qs:List (Option (Addr×Addr))}{k:Nat}{q:Option (Addr×Addr)}(h:qs[k]?=some q)(a t:Addr):EY (qs.set k (some (a,t)))=EY (qs.take k)++(t::EY (qs.drop (k+1))):=by obtain⟨j,_⟩:=xP.mp h;rw[AA3,xQ j,YD];rfl
theorem bx{j n:Type}{F:j->n->Prop}{a:j}{y:n}{l:List j}{m:List n}{i:Nat}(h:Paired F l m)(g:F a y):Paired F (l.set i a) (m.set i y):=by
 induction h generalizing i with
 |nil=>exact .nil
 |cons r t q=>
  cases i with
  |zero=>exact .cons g t
  |succ i=>exact .cons r q
theorem cF:∀{qs:List (Option (Addr×Addr))}{ks:List (Option Vbptal.Asked)}{k:Nat},Paired (Kh C H Y) qs ks->(EY qs).Nodup->qs[k]?=some (some (a,t))->(∀b∈EY qs,b≠t->H' b=H b)->AN Y I->Kh C H' I (some (a,t)) (some y)->Paired (Kh C H' I) qs (ks.set k (some y))
 |[],_,k,_,_,h,_,_,_=>by simp at h
 |q::qs,_::ks,0,.cons r N,j,h,L,M,g=>by
  have e:q=some (a,t):=by simpa using h
  subst e;have j:(t::EY qs).Nodup:=j;rw[yA]at j;refine .cons g (Js N λq' k' hq z=>z.mono (λB t' o e f=>?_) M);have J:t'∈EY qs:=Md (by rw[<-e];exact hq);rw[L t' (xY _ J) (λz=>j.1 (by rw[<-z];exact J))];exact f
 |q::qs,k0::ks,k+1,.cons r N,j,h,L,M,g=>by
  have h':qs[k]?=some (some (a,t)):=by simpa using h
  have O:t∈EY qs:=Md (xO h');have n:(EY qs).Nodup/\∀B t',q=some (B,t')->t'∈EY (q::qs)/\t'≠t:=by
   cases q with
   |none=>exact⟨j,λB t' e=>by cases e⟩
   |some at_=>obtain⟨a1,t1⟩:=at_;have j:(t1::EY qs).Nodup:=j;rw[yA]at j;refine⟨j.2,λB t' e=>?_⟩;cases e;exact⟨xl ..,λz=>j.1 (by rw[z];exact O)⟩
  refine .cons (r.mono (λB t' o e f=>?_) M) (cF N n.1 h' (λb U=>L b ?_) M g)
  .rw[L t' (n.2 B t' e).1 (n.2 B t' e).2];exact f
  .cases q with
   |none=>exact U
   |some at_=>exact xY _ U
section
variable{P:Program}{w:World}{K:PySem.W.Frag}{mg:Str->Option Value}{base:Heap}
section
variable{T:Txt w K mg}{F:List Addr}{H:Hp}{r:Addr}{s:Vbptal.State}{Mu:List Addr}{dx le lp lq lm:Addr}{es ps:List Addr}{qs:List (Option (Addr×Addr))}{fs:List (Str×V)}
theorem BX.kM(R:BX T F H r s Mu dx le lp lq lm es ps qs fs)(M:qs[k]?=some (some (a,t)))(J:AN (CE.Bl Mu H) (CE.Bl Mu H'))(B:∀b∈Mu,b≠t->H' b=H b)(N:Kh T.CS H' (CE.Bl Mu H') (some (a,t)) (some x)):
  BX T F H' r {s with asked:=s.asked.set k (some x)} Mu dx le lp lq lm es ps qs fs:=by
 have q:=R.nd;rw[R.mu]at q;have j:t∈EY qs:=Md (xO M);simp only[yA,yX,xb,xq,AAi]at q;have I:∀b,b∈le::lp::lq::(ps++(EY qs++F))->b∈Mu:=λb n=>by rw[R.mu];exact n
 refine⟨R.mu,R.nd,λb n=>?_,J _ _ R.X0,R.rf,?_,Paired.BO (λ_ _ z=>z.mono J) R.Eu,?_,JK R.Sn (λb n=>B b (I b (by simp[n])) (λz=>q.2.2.2.2.2 b n t (.inl j) z)) J,?_,?_,R.ms.mono J⟩
 .rw[B b (I b (by simp[n])) (λz=>q.2.2.2.2.1.2.2 t j b n z.symm)];exact R.fr b n
 .rw[B le (I le (by simp)) (λz=>q.1.2.2.2.1 (by rw[z];exact j))];exact R.el
 .rw[B lp (I lp (by simp)) (λz=>q.2.1.2.2.1 (by rw[z];exact j))];exact R.pl
 .rw[B lq (I lq (by simp)) (λz=>q.2.2.1.2.1 (by rw[z];exact j))];exact R.ql
 .exact cF R.WJ q.2.2.2.2.1.1 M (λb n L=>B b (I b (by simp[n])) L) J N
theorem BX.oF(R:BX T F H r s Mu dx le lp lq lm es ps qs fs){k:Nat}{a tl:Addr}{U:Option (Addr×Addr)}{x:Vbptal.Asked}(O:qs[k]?=some U){n:List Addr}(I:n=le::lp::lq::(ps++(EY (qs.set k (some (a,tl)))++F)))(Y:tl∉Mu){H':Hp}(J:AN (CE.Bl Mu H) (CE.Bl n H'))
  (L:∀b∈Mu,b≠lq->H' b=H b) (hl:H' lq=some (.lst ((qs.map qV).set k (.ref a)))) (hQ:Kh T.CS H' (CE.Bl n H') (some (a,tl)) (some x)):BX T F H' r {s with asked:=s.asked.set k (some x)} n dx le lp lq lm es ps (qs.set k (some (a,tl))) fs:=by
 have q:=R.nd;rw[R.mu]at q;have N:=q;simp only[yA,yX,xb,xq,AAi]at q;have M:∀b,b∈le::lp::lq::(ps++(EY qs++F))->b∈Mu:=λb j=>by rw[R.mu];exact j
 refine⟨I,?_,λb j=>?_,J _ _ R.X0,R.rf,?_,Paired.BO (λ_ _ z=>z.mono J) R.Eu,?_,JK R.Sn (λb j=>L b (M b (by simp[j])) (λz=>q.2.2.1.1 (by rw[<-z];exact j))) J,?_,?_,R.ms.mono J⟩
 .rw[I,gn O];have B:List.Sublist (le::lp::lq::(ps++((EY (qs.take k)++EY (qs.drop (k+1)))++F))) (le::lp::lq::(ps++(EY qs++F))):=by
   refine .cons₂ _ (.cons₂ _ (.cons₂ _ (ABQ (ABl _) (ABQ ?_ (ABl _)))));rw[XH O];exact ABQ (ABl _) (List.sublist_append_right _ _)
  have hp:List.Perm (le::lp::lq::(ps++((EY (qs.take k)++(tl::EY (qs.drop (k+1))))++F))) (tl::(le::lp::lq::(ps++((EY (qs.take k)++EY (qs.drop (k+1)))++F)))):=by
   have e1:le::lp::lq::(ps++((EY (qs.take k)++(tl::EY (qs.drop (k+1))))++F))=(le::lp::lq::(ps++EY (qs.take k)))++tl::(EY (qs.drop (k+1))++F):=by simp
   have e2:le::lp::lq::(ps++((EY (qs.take k)++EY (qs.drop (k+1)))++F))=(le::lp::lq::(ps++EY (qs.take k)))++(EY (qs.drop (k+1))++F):=by simp
   rw[e1,e2];exact List.perm_middle
  refine hp.nodup_iff.mpr (yA.mpr ⟨λz=>Y ?_,N.sublist B⟩);rw[R.mu];exact B.subset z
 .rw[L b (M b (by simp[j])) (λz=>q.2.2.1.2.2 (by rw[<-z];exact j))];exact R.fr b j
 .rw[L le (M le (by simp)) (λz=>q.1.2.1 z)];exact R.el
 .rw[L lp (M lp (by simp)) (λz=>q.2.1.1 z)];exact R.pl
 .rw[hl,List.map_set];rfl
 .refine bx (JN R.WJ (λb j=>L b (M b (by simp[j])) (λz=>q.2.2.1.2.1 (by rw[<-z];exact j))) J) hQ
end
theorem nN{s:Vbptal.State}{k e:Nat}{t:List Nat}{x:Vbptal.Edition}(h:s.editions[e]?=some x):Vbptal.act s (.ask (k:Int) (e:Int) (Vbptal.ints t))=match Vbptal.queryOf x t with
  |none=>(s,[-6])
  |some q=>({s with asked:=s.asked.set k (some ⟨e,t,q,[]⟩)},[(Vbptal.weight q:Int)]):=by
 rw[show Vbptal.act s (.ask (k:Int) (e:Int) (Vbptal.ints t))=_ from Gq h];rw[JB];rfl
inductive Ye(T:Txt w K mg)(vs:List V)(H:Hp)(Q:VK)(z3_:XK):Prop
 |mk (F:List Addr) (r:Addr) (s:Vbptal.State) (Mu:List Addr) (k e:Nat) (lt:Addr) (t:List Nat) (_:vs=[.ref r,vn k,vn e,.ref lt]) (_:Rep T F H r s Mu) (_:B8 s) (_:k<4) (_:LI (CE.Bl Mu H) lt t) (_:t.length<=60) (_:Wr T F H r Mu (Vbptal.act s (.ask (k:Int) (e:Int) (Vbptal.ints t))).1 (Vbptal.act s (.ask (k:Int) (e:Int) (Vbptal.ints t))).2 Q)
theorem YP(T:Txt w K mg):FB P w mg base T.SG 7 (Ye T):=by
 refine Ce T.SG QY λaz A aj s H vs Q E hr h=>?_;obtain⟨F,r,st,Mu,k,e,lt,t,rfl,hR,ok,aA,aa,ay,q⟩:=h;obtain⟨dx,le,lp,lq,lm,es,ps,qs,fs,R⟩:=id hR;refine⟨_,(AD (Ab (Ba (A7 (HN hr (pv 0) T.AM T.BH (BF T) (AA (pv 2) AE)))) (AF (AK (AZ (AA (gi T.CM) AE)))) AQ) (AD (B6 4 QY.nd (CI hr (T9 T) T.Wl (AA (pv 3) (AA (Cv (AO (pv 0) rfl) (pv 2)) AE)))) (AD (Ab (CA Ra (pv 4) B9) (AF (AK (AZ (AA (gi T.K5) AE)))) AQ) (AD (lU (nA (WI T) λa b=>TZ T.mC a (hr.mono Dc) rfl T.o6 b .nil LK (AA (pv 2) (AA (pv 3) (AA (CI hr (Zd T) T.cM (AA (pv 4) (AA (AO (pv 0) rfl) AE))) AE)))) (kf (AO (pv 0) rfl) (pv 1) set_list)) (AF (AK (AZ (AA (IM T.Be (pv 4)) AE)))))))),?_⟩;dsimp only[A0,Cx.Ck];refine AU (!decide (e<st.editions.length)) (λQ q=>⟨_,rfl,r,dx,_,rfl,R.BP,R.rf.n1,_,rfl,F,r,st,Mu,e,rfl,hR,_,rfl,q⟩) (λh=>?_) (λh=>?_)
 .exact⟨AW Dc,q.say hR (Mh (by simpa using h)) (AN.refl _)⟩
 obtain⟨x,hx⟩:=HE (l:=st.editions) (i:=e) (by simpa using h);rw[nN hx]at q;obtain⟨a,ha,hE⟩:=R.ed hx;have L:=ok.II x (xO hx);have n:=Yt L t;refine AS ⟨_,rfl,_,rfl,r,_,dx,_,_,rfl,R.BP,T.AM,T.AY,R.rf.Eu,_,rfl,le,_,_,_,rfl,rfl,Ah.of R.el,at_of (j:=e) rfl ha,lt,a,t,x,_,rfl,aa.mono (Af _ _),Om,hE,L,λhn H1 M=>?_,λl hl H1 p1 M n1 ab=>?_⟩
 .refine AU true (λQ q=>⟨_,rfl,rfl,_,rfl,q⟩) (λ_=>?_) (λh=>by cases h);rw[hn]at n;have ak:Vbptal.queryOf x t=none:=Option.map_eq_none_iff.mp n;rw[ak]at q;exact⟨AW Dc,q.say hR rfl M⟩
 refine AU false (λQ q=>⟨_,rfl,rfl,_,rfl,q⟩) (λh=>by cases h) (λ_=>?_);rw[hl]at n;obtain⟨qr,ae,N⟩:=xu.mp n;subst N;rw[ae]at q;have aB:=(R1 L ae).2;obtain⟨as,g1,am⟩:=id ab;have hM:=R.ms.mono ((Af Mu H).trans M);refine⟨_,rfl,_,rfl,_,rfl,_,rfl,r,_,dx,_,_,rfl,M _ _ R.BP,T.AM,T.Br,R.rf.uy,p1,lm,post qr,rfl,ab,by rw[De];lia,hM,λH2 p2 s2 n2 an=>λy dy nx nd aC=>⟨y,dy,lt,p2,e,rfl,AB,λH3 tl ao k3 af ag ap qf aq=>⟨rfl,?_⟩⟩⟩;have O:AN H2 H3:=λb o z=>k3 b o (AH z nx) (by rw[AG (AH z nx),AG (AH z nd)];exact z);have I:AN H H2:=M.trans s2;have J:=I.trans O;have ar:qs.length=4:=by rw[AR R.WJ];exact ok.places
 have U:qs[k]?=some qs[k]:=xW Om;have Y:H2 tl=none:=by
  by_cases e1:tl=y
  .exact absurd e1 ag
  .by_cases e2:tl=dy
   .rw[e2];exact nd
   .rw[AG e1,AG e2]at af;exact af
 have ix:f6 (qs.map qV).length (k:Int)=some k:=by unfold f6;rw[xH,ar];rw[xQ Om];simp;lia
 refine⟨_,rfl,r,_,dx,_,_,rfl,J _ _ R.BP,T.AM,T.BG,R.rf.WJ,_,rfl,lq,_,_,k,rfl,rfl,J _ _ R.ql,ix,?_⟩;have ah:lq∈Mu:=by rw[R.mu];simp
 have yM:y∉Mu:=λz=>R.there y z (I.free nx);have tM:tl∉Mu:=λz=>R.there tl z (I.free Y);have aD:p2∉Mu:=λz=>R.there p2 z (M.free n2);have au:p1≠lq:=λz=>by rw[z,R.ql]at n1;cases n1
 have sub:∀b,b∉Mu->b≠tl->b∉le::lp::lq::(ps++(EY (qs.set k (some (y,tl)))++F)):=λb B ht z=>by
  rw[R.mu,XH U]at B;rw[gn U]at z;simp only[xb,xq,AAi]at B z;rcases z with z|z|z|z|(z|z|z)|z
  .exact B.1 z
  .exact B.2.1 z
  .exact B.2.2.1 z
  .exact B.2.2.2.1 z
  .exact B.2.2.2.2.1.1 z
  .exact ht z
  .exact B.2.2.2.2.1.2.2 z
  .exact B.2.2.2.2.2 z
 have k4:∀b o,b∉Mu->H3 b=some o->(upd H3 lq (.lst ((qs.map qV).set k (.ref y)))) b=some o:=λb o B z=>by rw[AG (λe=>B (by rw[e];exact ah))];exact z
 have sm:AN (CE.Bl Mu H) (CE.Bl (le::lp::lq::(ps++(EY (qs.set k (some (y,tl)))++F))) (upd H3 lq (.lst ((qs.map qV).set k (.ref y))))):=JV λb o B z=>⟨sub b B (AH (I _ _ z) Y),k4 b o B (J _ _ z)⟩;have ai:∀b∈Mu,b≠lq->(upd H3 lq (.lst ((qs.map qV).set k (.ref y)))) b=H b:=λb B e=>by
  rw[AG e];cases z:H b with
  |none=>exact absurd z (R.there b B)
  |some o=>exact J _ _ z
 have sf:AN (fresh H1 H2) (CE.Bl (le::lp::lq::(ps++(EY (qs.set k (some (y,tl)))++F))) (upd H3 lq (.lst ((qs.map qV).set k (.ref y))))):=λb o z=>by
  have av:H1 b=none:=by
   cases w1:H1 b with
   |none=>rfl
   |some u=>rw[Cj w1]at z;cases z
  have h2:=Aw H1 H2 _ _ z;have bM:b∉Mu:=λw1=>R.there b w1 (M.free av);rw[As (sub b bM (AH h2 Y))];exact k4 b o bM (O _ _ h2)
 have ax:tl≠lq:=λz=>tM (by rw[z];exact ah);have R2:=R.oF (a:=y) (tl:=tl) (x:=⟨e,t,qr,[]⟩) U rfl tM sm ai AB ⟨dy,lt,p2,ao,by rw[As (sub y yM (x8 ag))];exact k4 _ _ yM ap,qf,aa.mono sm,an.mono sf,by unfold LI;rw[AG ax];exact aq⟩;have hn:=R.nd;rw[R.mu]at hn;simp only[yA,yX,xb,xq,AAi]at hn;refine⟨_,rfl,p1,as.map V.ref,rfl,.inl (Ah.of ?_),AW (by show 1<=1000;decide),(q.fin sm (λb B=>ai b (by rw[R.mu];simp[B]) (λz=>hn.2.2.1.2.2 (by rw[<-z];exact B))) ⟨_,_,_,_,_,_,_,_,_,R2⟩).lst (AN.refl _) ?_⟩
 .rw[AG au];exact O _ _ (s2 _ _ g1)
 .rw[xH,AR am,De];rfl
inductive YS(T:Txt w K mg)(vs:List V)(H:Hp)(Q:VK)(z3_:XK):Prop
 |mk (F:List Addr) (r:Addr) (s:Vbptal.State) (Mu:List Addr) (k:Nat) (x:Vbptal.Asked) (_:vs=[.ref r,vn k]) (_:Rep T F H r s Mu) (_:B8 s) (_:s.asked[k]?=some (some x)) (_:Wr T F H r Mu (Vbptal.act s (.news (k:Int))).1 (Vbptal.act s (.news (k:Int))).2 Q)
theorem mZ(ok:YF n m x):x.told.length<=m:=by
 have h:=ok.nd;have:∀(m:Nat)(l:List Nat),l.Nodup->(∀i∈l,i<m)->l.length<=m:=by
  intro m
  induction m with
  |zero=>intro l _ h2;cases l with
   |nil=>simp
   |cons a l=>exact absurd (h2 a (xl ..)) Om
  |succ m I=>
   intro l h1 h2;have L:=I (l.filter λi=>i !=m) (h1.filter _) (λi hi=>by
    have:=yH.mp hi;have J:=h2 i this.1;have B:i≠m:=by simpa using this.2
    lia)
   have J:l.length<=(l.filter λi=>i !=m).length+1:=by
    have B:∀l:List Nat,l.Nodup->l.length<=(l.filter λi=>i !=m).length+1:=by
     intro l
     induction l with
     |nil=>simp
     |cons a l j=>
      intro q;rw[yA]at q;by_cases e:a=m
      .rw[zI (by simp[e])];have:l.filter (λi=>i !=m)=l:=List.filter_eq_self.mpr λi hi=>by
        have:i≠m:=λz=>q.1 (by rw[e,<-z];exact hi);simpa using this
       rw[this];simp
      .rw[zH (by simpa using e)];have:=j q.2;simp;lia
    exact B l h1
   lia
 exact this m x.told h ok.told
theorem t8{s:Vbptal.State}{q:Vbptal.Query}{told:List Nat}:(Vbptal.papersWith s q 2).filter (λi=> !told.contains i)=(List.range s.papers.length).filter λi=>((s.papers[i]?).any λp=>Vbptal.found q p==2) && !told.contains i:=by
 rw[IU,List.filter_filter]
 congr 1
 funext i;exact Bool.and_comm _ _
abbrev wZ(r a ds:Addr)(k:Nat)(j:Hp)(st:Vbptal.State)(x:Vbptal.Asked):Nat->L2.St->Hp->Prop:=λi σ H'=>(∃v1 n:Option V,σ=[some (.ref r),some (vn k),some (.ref a),some (.ref ds),v1,n])/\(∀b o,b≠ds->j b=some o->H' b=some o)/\LI H' ds ((List.range i).filter λi=>((st.papers[i]?).any λp=>Vbptal.found x.query p==2) && !x.told.contains i)
theorem YY(T:Txt w K mg):FB P w mg base T.Rp 5 (YS T):=by
 refine Ce T.Rp Ef λaD A aj s H vs Q E hr h=>?_;obtain⟨F,r,st,Mu,k,x,rfl,hR,ok,hx,q⟩:=h;obtain⟨dx,le,lp,lq,lm,es,ps,qs,fs,R⟩:=id hR;obtain⟨a,t,O,ak,U,lt,am,an,Y,qf,ao,ap,n⟩:=R.va hx;have aE:=ok.Vk;have aF:=mZ (ok.KU x (xO hx));rw[show Vbptal.act st (.news (k:Int))=_ from FH hx,yG]at q;have q:Wr T F H r Mu {st with asked:=st.asked.set k (some {x with told:=x.told++(Vbptal.papersWith st x.query 2).filter λi=> !x.told.contains i})} (Vbptal.counted ((Vbptal.papersWith st x.query 2).filter λi=> !x.told.contains i)) Q:=q;rw[t8]at q;have af:=Af _ _ _ _ Y;refine⟨_,(AD (B6 2 Ef.nd (Cv (AO (pv 0) rfl) (pv 1))) (AD (B6 3 Ef.nd (AZ AE)) (AD (Bc xo rfl (PN rfl T.EU (AA (CI hr (IG T) T.Jv (AA (pv 0) (AA (pv 1) AE))) AE)) (DT rfl (Ak (Dz 4 Ef.nd) (Ak (Dz 5 Ef.nd) CY))) (AF (Ab (PW.pt (J2 (CA A5 (Gs Em (pv 5) AL (λ_ _=>rfl)) (Gs Em (pv 5) AL (λ_ _=>rfl))) (GX (TR (show Kx _ _ (sg K true)from J3) (pv 4) (AO (pv 2) rfl) rfl)))) (AF (A3 (Cn xa xw xx BD (pv 3) (AA (pv 4) AE)))) AQ))) (AD (A3 (Cn xa yx yy FA (AO (pv 2) rfl) (AA (pv 3) AE))) (AF (AK (CI hr (Cs T) T.DQ (AA (pv 3) AE)))))))),?_⟩;dsimp only[A0,Cx.Ck];refine AS ⟨_,rfl,r,_,dx,_,_,rfl,R.BP,T.AM,T.BG,R.rf.WJ,_,rfl,lq,_,_,_,rfl,rfl,Ah.of R.ql,at_of (j:=k) rfl ak,?_⟩;refine AS ⟨xi _,λds n1=>?_⟩;have s2:AN H (upd H ds (.lst [])):=AI n1;have g1:LI (upd H ds (.lst [])) ds []:=AB;generalize upd H ds (.lst [])=H2 at s2 g1⊢;refine⟨_,rfl,_,rfl,F,r,st,Mu,k,x,rfl,hR.mono s2,ok,hx,λH3 p3 s3 n3 aq=>?_⟩;obtain⟨as,gp,pr⟩:=id aq;have ar:p3≠ds:=λz=>by rw[z]at n3;unfold LI at g1;rw[n3]at g1;cases g1
 have ag:(as.map V.ref).length=st.papers.length:=by rw[xH,AR pr];unfold E4;rw[xH]
 have aa:=s2.trans s3;refine⟨p3,_,rfl,Ah.of gp,L6 (K:=K) (a:=p3) (xs:=as.map V.ref)
  (wZ r a ds k H3 st x)
  ⟨⟨_,_,rfl⟩,λ_ _ _ z=>z,g1.mono s3⟩ (λi σ H' _ z=>Ah.of (z.2.1 _ _ ar gp)) ?_ ?_⟩
 .rintro i v σ M T0 hv ⟨⟨v1,v2,rfl⟩,hk,h5⟩ nT;obtain⟨N,au,rfl⟩:=BK hv;obtain⟨sv,B,J⟩:=Av i N pr au;obtain⟨y,hy,rfl⟩:∃y,st.papers[i]?=some y/\sv=(Vbptal.yes x.query y,(Vbptal.meanings y).length):=by
   unfold E4 at B;rw[xh]at B;cases z:st.papers[i]? with
   |none=>rw[z]at B;cases B
   |some y=>rw[z]at B;exact⟨y,rfl,(xn B).symm⟩
  have aG:=(xP.mp hy).1;have J:H3 N=some (.tup [vn (Vbptal.yes x.query y),vn (Vbptal.meanings y).length]):=J;have av:N≠ds:=Dv J (g1.mono s3) (by intro z;cases z);have ab:=AI (o:=.tup [.int (i:Nat),.ref N]) nT;have I:=ab _ _ (hk _ _ av J);have l5:=h5.mono ab;have k5:∀b o,b≠ds->H3 b=some o->(upd M T0 (.tup [.int (i:Nat),.ref N])) b=some o:=λb o h1 z=>ab _ _ (hk b o h1 z);have f2:((st.papers[i]?).any λp=>Vbptal.found x.query p==2)=(Vbptal.found x.query y==2):=by rw[hy];rfl
  have c2:=OT (λi=>((st.papers[i]?).any λp=>Vbptal.found x.query p==2) && !x.told.contains i) i;refine⟨T0,_,rfl,Cd.of AB,rfl,_,_,rfl,_,_,rfl,rfl,?_⟩;generalize upd M T0 (.tup [.int (i:Nat),.ref N])=H5 at I l5 k5⊢;have ax:a≠ds:=AH (Af _ _ _ _ Y) n1;have ay:=k5 _ _ ax (aa _ _ af);have ae:t≠ds:=λz=>by unfold LI at n;rw[z,n1]at n;cases n
  have az:LI H5 t x.told:=k5 _ _ ae (aa _ _ n);refine Ca (decide (Vbptal.yes x.query y=(Vbptal.meanings y).length) && !x.told.contains i) (λQ q=>⟨_,rfl,N,_,_,_,rfl,rfl,Cd.of I,at_of (j:=0) rfl rfl,_,rfl,N,_,_,_,rfl,rfl,Cd.of I,at_of (j:=1) rfl rfl,rfl,_,rfl,?_⟩) (λh=>?_) (λh=>?_)
  .rw[kB];refine ko (R:=λb=>Q b H5) (c:=true) (λh=>?_) (λh=>?_)
   .rw[h,yP]at q;refine⟨_,rfl,_,rfl,a,_,U,_,_,rfl,ay,T.DZ,T.IK,qf.told,t,_,rfl,.inl az.sq,rfl,Ur _,_,rfl,?_⟩;have:=YI i x.told;show Q (if true=true then !rJ (vn i) (Bs x.told)else _) H5;rw[xQ rfl,this];exact q
   .rw[h]at q;exact q
  .rw[x4]at h;have hf:=gB (xI h.1);refine⟨_,rfl,.inl ⟨rfl,_,Ah.of l5⟩,_,rfl,ds,_,_,rfl,rfl,l5,?_,⟨_,_,rfl⟩,λb o h1 z=>by rw[AG h1];exact k5 b o h1 z,?_⟩
   .rw[Am];exact Az Om
   .unfold LI;rw[AB,JH (p:=λi=>((st.papers[i]?).any λp=>Vbptal.found x.query p==2) && !x.told.contains i) (by rw[f2,hf,h.2];rfl),B4]
  .refine⟨⟨_,_,rfl⟩,k5,?_⟩;rw[Gh (p:=λi=>((st.papers[i]?).any λp=>Vbptal.found x.query p==2) && !x.told.contains i) ?_];exact l5;intro z;rw[f2,x4]at z;have z1:Vbptal.found x.query y=2:=by simpa using z.1
   by_cases e:Vbptal.yes x.query y=(Vbptal.meanings y).length
   .rw[xR e,z.2]at h;cases h
   .exact er e z1
 .rintro σ M ⟨⟨v1,v2,rfl⟩,hk,h5⟩;rw[ag]at h5;have c2:=OT (λi=>((st.papers[i]?).any λp=>Vbptal.found x.query p==2) && !x.told.contains i) st.papers.length;generalize((List.range st.papers.length).filter λi=>((st.papers[i]?).any λp=>Vbptal.found x.query p==2) && !x.told.contains i)=la at*;have L:AN H M:=λb o z=>hk b o (AH z n1) (aa _ _ z);have aA:=L _ _ af;have ah:LI M t x.told:=n.mono L;have ae:t≠ds:=λz=>by unfold LI at n;rw[z,n1]at n;cases n
  refine⟨_,rfl,a,_,U,_,_,rfl,aA,T.DZ,T.IK,qf.told,.inl ⟨rfl,_,Ah.of ah⟩,_,rfl,t,ds,_,_,rfl,rfl,ah,h5,?_,?_⟩
  .rw[Am,Am];exact AW Om
  have tM:t∈Mu:=by rw[R.mu];simp[Md (xO O)]
  have sm:AN (CE.Bl Mu H) (CE.Bl Mu (upd M t (.lst (Bs x.told++Bs la)))):=by rw[Ga tM];exact AN.Bl L
  have ai:∀b∈Mu,b≠t->(upd M t (.lst (Bs x.told++Bs la))) b=H b:=λb hb e=>by
   rw[AG e];cases z:H b with
   |none=>exact absurd z (R.there b hb)
   |some o=>exact L _ _ z
  have R2:=R.kM (x:={x with told:=x.told++la}) O sm ai ⟨U,lt,am,an,sm _ _ Y,qf,ao.mono sm,ap.mono sm,by unfold LI;rw[AB];exact x3 (λz=>some (HO.lst z)) (xX ..).symm⟩;have hn:=R.nd;rw[R.mu]at hn;have aB:t∈EY qs:=Md (xO O);simp only[yA,yX,xb,xq,AAi]at hn;have fin:=q.fin sm (λb hb=>ai b (by rw[R.mu];simp[hb]) (λz=>hn.2.2.2.2.1.2.2 t aB b hb z.symm)) ⟨_,_,_,_,_,_,_,_,_,R2⟩;have aC:LI (upd M t (.lst (Bs x.told++Bs la))) ds la:=by unfold LI;rw[AG (x8 ae)];exact h5
  refine⟨_,rfl,ds,_,rfl,aC.z,by rw[A9];lia,λH6 p6 s6 n6 g6=>?_⟩;rw[<-DE]at g6;exact fin H6 p6 s6 n6 g6
end
theorem RH [DecidableEq z]:∀{l m:List z},l.Nodup->(∀x∈l,x∈m)->l.length<=m.length
 |[],_,_,_=>xi _
 |a::l,m,h,j=>by rw[yA]at h;have h2:=RH (l:=l) (m:=m.erase a) h.2 λx n=>(List.mem_erase_of_ne (λe=>h.1 (by rw[<-e];exact n))).mpr (j x (xY _ n));have q:=j a (xl ..);rw[ABz q]at h2;have:=AAy q;rw[xg];lia
theorem XI{ns ks:List Int}(j:ns.Perm ks)(n:ks.Nodup)(q:ns.Pairwise (· <= ·)):ns.Pairwise (· < ·):=by have h2:ns.Nodup:=j.nodup_iff.mpr n;have z:ns.Pairwise λa b=>a<=b/\a≠b:=List.Pairwise.and q h2;exact z.imp λ⟨h1,h2⟩=>by lia
theorem sG{b:Bool}{R S:Prop}(h:b=true->R)(h2:b=false->S):if b=true then R else S:=by
 cases b with
 |true=>exact h rfl
 |false=>exact h2 rfl
section
variable{P:Program}{w:World}{K:PySem.W.Frag}{mg:Str->Option Value}{base:Heap}
inductive VH(vs:List V)(H:Hp)(Q:VK)(z3_:XK):Prop
 |mk (a:Addr) (l:List Sg) (_:vs=[.ref a]) (_:GI H a l) (_:(Bv l).length<60) (_:∀(H':Hp)(p:Addr)(L:List Int),AN H H'->H p=none->L.Pairwise (· < ·)->(∀d,d∈L↔d∈(0:Int)::Bv l)->LZ H' p (L.filter Gk)->Q (.ref p) H')
theorem VG{l:List Sg}{i:Nat}{s:Sg}(h:l[i]?=some s):Bv (l.take (i+1))=Bv (l.take i)++jG s:=by rw[take_succ h,BZ];unfold Bv;simp
theorem WX(l:List Sg)(i:Nat):(Bv (l.take i)).length<=(Bv l).length:=by
 conv=>rhs;rw[<-AAU i l,BZ,xS]
 lia
theorem gH(a:List Int)(b:List Int):(a.map V.int)++(b.map V.int)=(a++b).map V.int:=(xX ..).symm
abbrev wF(a D:Addr)(H:Hp)(l:List Sg):Nat->L2.St->Hp->Prop:=λi σ H'=>(∃v1 j:Option V,σ=[some (.ref a),some (.ref D),v1,j])/\AN H H'/\LZ H' D ((0:Int)::Bv (l.take i))
theorem VR(T:Txt w K mg):FB P w mg base T.N2 1 VH:=by
 refine Ce T.N2 C1 λaq A ah s H vs Q E hr h=>?_;obtain⟨a,l,rfl,ai,ap,q⟩:=h;obtain⟨as,g1,O⟩:=id ai;refine⟨_,(AD (B6 1 C1.nd (AZ (AA AL AE))) (AD (Bc xo rfl (BE (pv 0)) (DT rfl (Ak (Dz 2 C1.nd) (Ak (Dz 3 C1.nd) CY))) (AF (Ab (CA A5 (pv 2) (gs T.ZT)) (AF (A3 (Cn xa yx yy FA (pv 1) (AA (AZ (AA (pv 3) (AA (Ap EK (pv 3) AL) AE))) AE)))) (AF (Ab (CA A5 (pv 2) (gs T.hJ)) (AF (A3 (Cn xa yx yy FA (pv 1) (AA (AZ (AA (Ap IH (pv 3) AL) (AA (pv 3) AE))) AE)))) AQ))))) (AF (AK (Hw rfl C1.nd (BE (Fm (Ub rfl) (by rfl) T.U7 J5 (AA (RS (gc rfl) (by rfl) T.qE XX (AA (pv 1) AE)) AE))) (show D1 ["pieces","days","kind","day"] (A4 ID) _ [("day",3)]from CB Dk) (λ_ _ _ _ _=>(Dz 3 C1.nd)) (λ_ _ _ _ _=>(Hq (mM Kb Kb AL (pv 3) AL))) (λ_ _ _ _ _=>(pv 3))))))),?_⟩;dsimp only[A0,Cx.Ck];refine AS ⟨AW Dc,λD nD=>?_⟩;refine⟨_,rfl,a,rfl,⟨_,Ah.of (AI nD _ _ g1)⟩,Bh (K:=K) (a:=a) (xs:=as.map V.ref)
  (wF a D H l)
  ⟨⟨_,_,rfl⟩,AI nD,AB⟩ (λi σ H' _ z=>Ah.of (z.2.1 _ _ g1)) ?_ ?_⟩
 .rintro i v σ H1 hv ⟨⟨v1,v2,rfl⟩,N,n⟩;obtain⟨ya,aj,rfl⟩:=BK hv;obtain⟨U,Y,aa⟩:=Av i ya O aj;have ar:=WX l i;refine⟨ya,_,rfl,Cd.of (N _ _ aa),rfl,_,_,rfl,_,_,rfl,rfl,?_⟩;have ext:∀(x y:Int)(p:Addr),H1 p=none->jG U=[x,y]->∃xs zs,(upd H1 p (.lst [V.int x,V.int y])) D=some (.lst xs)/\(upd H1 p (.lst [V.int x,V.int y])) p=some (.lst zs)/\xs.length+zs.length<=sizeLine/\
    AN H (upd (upd H1 p (.lst [V.int x,V.int y])) D (.lst (xs++zs)))/\LZ (upd (upd H1 p (.lst [V.int x,V.int y])) D (.lst (xs++zs))) D ((0:Int)::Bv (l.take (i+1))):=λx y p np hd=>by
   have ak:D≠p:=AH n np;refine⟨_,_,by rw[AG ak];exact n,AB,?_,λb o z=>?_,?_⟩
   .rw[xH,xg];exact AW (by show _+2<=_;lia)
   .rw[AG (AH z nD),AG (AH (N _ _ z) np)];exact N _ _ z
   .unfold LZ;rw[AB,VG Y,hd];exact x3 (λz=>some (HO.lst z)) (gH ((0:Int)::Bv (l.take i)) [x,y])
  refine Ca (X8 U) (λQ q=>⟨_,rfl,rfl,_,rfl,by rw[YO];exact q⟩) (λh=>?_) (λh=>?_)
  .obtain⟨d,rfl⟩:=cA h;refine⟨_,rfl,.inl ⟨rfl,_,Ah.of n⟩,_,rfl,_,rfl,_,_,rfl,rfl,AW (by show 2<=1000;decide),λp np=>?_⟩;obtain⟨xs,zs,e1,e2,e3,e4,e5⟩:=ext (d:Int) ((d:Int)+1) p np rfl;exact⟨D,p,xs,zs,rfl,rfl,e1,e2,e3,⟨_,_,rfl⟩,e4,e5⟩
  refine Ca (Ys U) (λQ q=>⟨_,rfl,rfl,_,rfl,by rw[nJ];exact q⟩) (λh2=>?_) (λh2=>?_)
  .obtain⟨d,rfl⟩:=mX h2;refine⟨_,rfl,.inl ⟨rfl,_,Ah.of n⟩,_,rfl,_,_,rfl,rfl,_,rfl,AW (by show 2<=1000;decide),λp np=>?_⟩;obtain⟨xs,zs,e1,e2,e3,e4,e5⟩:=ext ((d:Int) - 1) (d:Int) p np rfl;exact⟨D,p,xs,zs,rfl,rfl,e1,e2,e3,⟨_,_,rfl⟩,e4,e5⟩
  .have e0:jG U=[]:=by cases U<;> first|rfl|(cases h;done)|(cases h2;done)
   refine⟨⟨_,_,rfl⟩,N,?_⟩;rw[VG Y,e0,yJ];exact n
 .rintro σ H1 ⟨⟨v1,v2,rfl⟩,N,n⟩;rw[xH,AR O,xm]at n;refine⟨_,rfl,D,_,rfl,Ah.of n,by rw[xg];lia,λp ks np ab B=>?_⟩;have s2:=AI (o:=Sk w p ks) np;have ae:ks.length<=((0:Int)::Bv l).length:=RH ab λx hx=>(B x).mp hx;refine⟨p,ks,rfl,AB,by rw[xg]at ae;lia,λI ns am J an=>?_⟩;have s3:=s2.trans (AI (o:=.lst (ns.map V.int)) am);have af:=N.trans s3;have g3:LZ (upd (upd H1 p (Sk w p ks)) I (.lst (ns.map V.int))) I ns:=AB;have au:ns.length<=60:=by rw[J.length_eq];rw[xg]at ae;lia
  refine⟨I,rfl,⟨_,Ah.of g3⟩,λL M=>FP (K:=K) (a:=I) (xs:=ns.map V.int) (λi H'=>AN (upd (upd H1 p (Sk w p ks)) I (.lst (ns.map V.int))) H'/\LZ H' L ((ns.take i).filter Gk)) ⟨AI M,AB⟩ (λi H' _ z=>Ah.of (z.1 _ _ g3)) ?_ ?_⟩
  .rintro i v j hv ⟨s4,hl⟩;obtain⟨d,hd,rfl⟩:=ints_get hv;refine⟨rfl,?_⟩;have ao:=yI Gk (ns.take i);rw[xt]at ao;have ag:=RG (p:=Gk) hd;have fin:∀b:Bool,b=Gk d->if b=true then(λy j=>∃acc,j L=some (HO.lst acc)/\acc.length<sizeLine/\(AN (upd (upd H1 p (Sk w p ks)) I (.lst (ns.map V.int))) (upd j L (.lst (acc++[y])))/\LZ (upd j L (.lst (acc++[y]))) L ((ns.take (i+1)).filter Gk))) (V.int d) j else(AN (upd (upd H1 p (Sk w p ks)) I (.lst (ns.map V.int))) j/\LZ j L ((ns.take (i+1)).filter Gk)):=λb hb=>by
    refine Fi (λh=>⟨_,hl,?_,λb o e=>?_,?_⟩) (λh=>⟨s4,?_⟩)
    .rw[xH];exact Az Om
    .rw[AG (AH e M)];exact s4 b o e
    .unfold LZ;rw[AB,ag,xQ (by rw[<-hb];exact h)];exact x3 (λz=>some (HO.lst z)) (gH _ [d])
    .rw[ag,xJ (by rw[<-hb];exact h),yJ];exact hl
   refine⟨_,rfl,_,_,rfl,rfl,_,rfl,?_⟩;refine sG (λh=>?_) (λh=>?_)
   .refine⟨_,_,rfl,rfl,_,rfl,?_⟩;have e1:decide (d<=999)=Gk d:=by unfold Gk;rw[show decide (0<=d)=true from h,yP]
    have:=fin _ e1;refine Fi (λh2=>?_) (λh2=>?_)
    .rw[xQ h2]at this;exact⟨_,rfl,this⟩
    .rw[xJ h2]at this;exact this
   .refine⟨_,rfl,?_⟩;have e1:false=Gk d:=by unfold Gk;rw[show decide (0<=d)=false from h,zU]
    have:=fin _ e1;rw[xJ Dc]at this;exact ED this
  .rintro j ⟨s4,hl⟩;rw[xH,xm]at hl;exact q j L ns (af.trans s4) (af.free M) (XI J ab an) (λd=>by rw[J.mem_iff];exact B d) hl
end
theorem Sa{l:List Sg}{i:Nat}{s:Sg}(h:l[i]?=some s):CP (l.take (i+1))=CP (l.take i)++hX s:=by rw[take_succ h,Ct];unfold CP;simp
theorem jY(s:Sg):(hX s).length<=1:=by cases s<;> exact xI rfl
theorem OQ:∀l:List Sg,(CP l).length<=l.length
 |[]=>by simp[CP]
 |s::l=>by have:=OQ l;have h1:=jY s;unfold CP at*;rw[zJ,xS,xg];lia
theorem bR:∀(l:List Nat)(acc:List (List Nat))(n:Nat),(∀j∈acc,j.length<=n)->∀j∈l.foldl (λfound w=>found++found.map λj=>j++[w]) acc,j.length<=n+l.length
 |[],acc,n,h,j,q=>h j q
 |x::l,acc,n,h,j,q=>by
  have:=bR l (acc++acc.map λj=>j++[x]) (n+1) (λu B=>by
   rcases xq.mp B with z|z
   .have:=h u z;lia
   .obtain⟨v,I,rfl⟩:=x5.mp z;have:=h v I;rw[xS];simp;lia) j q
  rw[xg];lia
theorem Xt(h:j∈dbl l):j.length<=l.length:=by have:=bR l [[]] 0 (by simp) j h;lia
section
variable{P:Program}{w:World}{K:PySem.W.Frag}{mg:Str->Option Value}{base:Heap}
inductive Vn(vs:List V)(H:Hp)(Q:VK)(z3_:XK):Prop
 |mk (a:Addr) (l:List Sg) (_:vs=[.ref a]) (_:GI H a l) (_:l.length<=500) (_:(∀x∈CP l,x<6)) (_:∀(H':Hp)(p:Addr)(W:List Nat),AN H H'->W.Pairwise (· < ·)->(∀x,x∈W↔x∈CP l)->B5 H' p (dbl W)->Q (.ref p) H')
abbrev vz(a p n:Addr)(H2:Hp)(ks:List Int)(W:List Nat):Nat->L2.St->Hp->Prop:=λi σ H'=>∃(j:Addr)(v1 q z v4:Option V),σ=[some (.ref a),some (.ref j),v1,q,z,v4]/\AN (upd (upd H2 p (Sk w p ks)) n (.lst ((Vbptal.ints W).map V.int))) H'/\B5 H' j (dbl (W.take i))
theorem Wc(T:Txt w K mg):FB P w mg base T.Pw 1 Vn:=by
 refine Ce T.Pw By λaH A au s H vs Q E hr h=>?_;obtain⟨a,l,rfl,av,aF,ax,q⟩:=h;obtain⟨as,g1,ab⟩:=id av;refine⟨_,(AD (B6 1 By.nd (AZ (AA (AZ AE) AE))) (AD (Bc xo rfl (BE (Fm (Ub rfl) (by rfl) T.U7 J5 (AA (RS (gc rfl) (by rfl) T.qE XX (AA (Hw rfl By.nd (BE (pv 0)) (show D1 ["pieces","found","word","kind","value","words"] (A4 GZ) _ [("kind",3),("value",4)]from CB Dk) (λ_ _ _ _ _=>(show PG _ _ (eC K 2 _)from(DT rfl (Ak (Dz 3 By.nd) (Ak (Dz 4 By.nd) CY))))) (λ_ _ _ _ _=>(Hq (CA A5 (pv 3) (gs T.fS)))) (λ_ _ _ _ _=>(pv 4))) AE)) AE))) (X3 (i:=2) By.nd rfl (Or.inr rfl)) (AF (B6 1 By.nd (Ap DF (pv 1) (Hw rfl By.nd (BE (pv 1)) (show D1 ["pieces","found","word","kind","value","words"] (A4 GZ) _ [("words",5)]from CB Dk) (λ_ _ _ _ _=>(Dz 5 By.nd)) (λ_ _ _ _ _=>Hz) (λ_ _ _ _ _=>(Ap DF (pv 5) (AZ (AA (pv 2) AE))))))))) (AF (AK (pv 1))))),?_⟩;dsimp only[A0,Cx.Ck];refine AS ⟨xi _,λe0 n0=>⟨AW (by show 1<=1000;decide),λf0 ae=>?_⟩⟩;have s0:=(AI (o:=.lst []) n0).trans (AI (o:=.lst [V.ref e0]) ae);have r0:B5 (upd (upd H e0 (.lst [])) f0 (.lst [V.ref e0])) f0 (dbl []):=⟨[e0],AB,.cons (AI ae _ _ AB) .nil⟩;generalize upd (upd H e0 (.lst [])) f0 (.lst [V.ref e0])=H1 at s0 r0⊢;refine⟨_,rfl,a,rfl,⟨_,Ah.of (s0 _ _ g1)⟩,λD nD=>FP (K:=K) (a:=a) (xs:=as.map V.ref)
  (λi H'=>AN H1 H'/\LI H' D (CP (l.take i))) ⟨AI nD,AB⟩ (λi H' _ z=>Ah.of (z.1 _ _ (s0 _ _ g1))) ?_ ?_⟩
 .rintro i v H2 hv ⟨s2,hl⟩;obtain⟨ya,aa,rfl⟩:=BK hv;obtain⟨af,ag,ah⟩:=Av i ya ab aa;have ai:=OQ (l.take i);rw[xt]at ai;refine⟨ya,_,rfl,Cd.of (s2 _ _ (s0 _ _ ah)),rfl,_,_,rfl,_,_,rfl,rfl,rfl,_,rfl,rfl,_,rfl,?_⟩;rw[ef];refine Fi (λh=>?_) (λh=>⟨s2,?_⟩)
  .obtain⟨_,rfl⟩:=gQ h;refine⟨_,rfl,_,hl,?_,λb o z=>?_,?_⟩
   .rw[Am];exact Az Om
   .rw[AG (AH z nD)];exact s2 b o z
   .unfold LI;rw[AB,Sa ag];exact x3 (λz=>some (HO.lst z)) (B4 _ _).symm
  .have e0:hX af=[]:=by cases af<;> first|rfl|exact absurd rfl h
   rw[Sa ag,e0,yJ];exact hl
 .rintro H2 ⟨s2,hl⟩;rw[xH,AR ab,xm]at hl;have ai:=OQ l;refine⟨D,Vbptal.ints (CP l),rfl,Ah.of hl.z,by rw[A9];lia,λp ks np aj L=>?_⟩;have ak:∀x∈ks,∃n:Nat,n<6/\x=(n:Int):=λx I=>by
   obtain⟨n,N,rfl⟩:=x5.mp ((L x).mp I);exact⟨n,ax n N,rfl⟩
  have aI:ks.length<=6:=by
   have:=RH (m:=Vbptal.ints (List.range 6)) aj λx I=>by obtain⟨n,N,rfl⟩:=ak x I;exact x5.mpr ⟨n,yZ.mpr N,rfl⟩
   rw[A9,yl]at this;exact this
  refine⟨p,ks,rfl,AB,Om,λD2 ns ay M az=>?_⟩;obtain⟨W,rfl⟩:∃W:List Nat,ns=Vbptal.ints W:=by
   have:∀l:List Int,(∀x∈l,∃n:Nat,n<6/\x=(n:Int))->∃W:List Nat,l=Vbptal.ints W:=by
    intro l
    induction l with
    |nil=>intro _;exact⟨[],rfl⟩
    |cons x l ih=>intro h;obtain⟨n,_,rfl⟩:=h x (xl ..);obtain⟨W,rfl⟩:=ih λy hy=>h y (xY _ hy);exact⟨n::W,rfl⟩
   exact this ns λx I=>ak x (M.mem_iff.mp I)
  have aJ:W.length<=6:=by have:=M.length_eq;rw[A9]at this;lia
  have aA:W.Pairwise (· < ·):=by have:=XI M aj az;unfold Vbptal.ints at this;rw[zK]at this;exact this.imp λh=>by lia
  have aB:∀x,x∈W↔x∈CP l:=λx=>by
   constructor
   .intro I;obtain⟨n,N,e⟩:=x5.mp ((L (x:Int)).mp (M.mem_iff.mp (x5.mpr ⟨x,I,rfl⟩)));have:n=x:=AA5 e;rw[<-this];exact N
   .intro I;obtain⟨n,N,e⟩:=x5.mp (M.mem_iff.mpr ((L (x:Int)).mpr (x5.mpr ⟨x,I,rfl⟩)));have:n=x:=AA5 e;rw[<-this];exact N
  have s3:=(AI (o:=Sk w p ks) np).trans (AI (o:=.lst ((Vbptal.ints W).map V.int)) ay);have g3:LI (upd (upd H2 p (Sk w p ks)) D2 (.lst ((Vbptal.ints W).map V.int))) D2 W:=LZ.n AB;have aC:=s0.trans (s2.trans s3);refine⟨D2,rfl,⟨_,Ah.of AB⟩,Bh (K:=K) (a:=D2) (xs:=(Vbptal.ints W).map V.int)
   (vz a p D2 H2 ks W)
   ⟨f0,_,_,_,_,rfl,AN.refl _,r0.mono (s2.trans s3)⟩ (λi σ H' _ z=>by obtain⟨_,_,_,_,_,_,z1,_⟩:=z;exact Ah.of (z1 _ _ AB)) ?_ ?_⟩
  .rintro i v σ H4 hv ⟨fa,v1,v2,v3,v4,rfl,s4,B⟩;obtain⟨x,I,rfl⟩:=ints_get hv;obtain⟨n,N,rfl⟩:∃n,W[i]?=some n/\x=(n:Int):=by
    unfold Vbptal.ints at I;rw[xh]at I;cases z:W[i]? with
    |none=>rw[z]at I;cases I
    |some n=>rw[z]at I;exact⟨n,rfl,(xn I).symm⟩
   have aK:=(xP.mp N).1;obtain⟨fs,gf,O⟩:=id B;have aL:(dbl (W.take i)).length<=64:=by rw[gO _ _ rfl,xt];have:2 ^ min i W.length<=2 ^ 6:=zb Dc Om;exact this
   refine⟨_,rfl,_,rfl,fa,rfl,⟨_,Ah.of gf⟩,λD5 am=>FP (K:=K) (a:=fa) (xs:=fs.map V.ref)
    (λj H'=>AN H4 H'/\∃bs:List Addr,H' D5=some (.lst (bs.map V.ref))/\Paired (LI (CE.Bl [D5] H')) bs (((dbl (W.take i)).take j).map λws=>ws++[n])) ⟨AI am,[],AB,.nil⟩ (λj H' _ z=>Ah.of (z.1 _ _ gf)) ?_ ?_⟩
   .rintro j u H5 hu ⟨s5,bs,U,J⟩;obtain⟨ya,aa,rfl⟩:=BK hu;obtain⟨ws,an,aD⟩:=Av j ya O aa;have aG:ws.length<=6:=by
     have h2:=Xt (xO an);rw[xt]at h2;lia
    refine⟨rfl,SA ?_⟩;have ao:LI H5 ya ws:=aD.mono s5;refine⟨_,rfl,_,rfl,AW (by show 1<=1000;decide),λp6 n6=>⟨ya,p6,_,_,rfl,rfl,ao.mono (AI n6),AB,?_,λp7 n7=>?_⟩⟩
    .rw[Am];exact AW (by show _+1<=_;lia)
    have Y:=(AI (o:=.lst [vn n]) n6).trans (AI (o:=.lst (Bs ws++[vn n])) n7);have ap:=Y _ _ U;have g7:LI (upd (upd H5 p6 (.lst [vn n])) p7 (.lst (Bs ws++[vn n]))) p7 (ws++[n]):=by unfold LI;rw[AB,B4]
    have aq:H5 p7=none:=(AI (o:=.lst [vn n]) n6).free n7;have aE:p7≠D5:=λz=>by rw[z,U]at aq;cases aq
    have ar:bs.length<=64:=by rw[AR J,xH,xt];lia
    generalize upd (upd H5 p6 (.lst [vn n])) p7 (.lst (Bs ws++[vn n]))=H7 at Y ap g7⊢;refine⟨_,ap,?_,λb o z=>?_,bs++[p7],?_,?_⟩
    .rw[xH];exact Az Om
    .rw[AG (AH z am)];exact Y _ _ (s5 _ _ z)
    .rw[AB,xX];rfl
    .rw[take_succ an,xX,Ga (by simp)];refine BR (Paired.BO (λ_ _ z=>LI.mono z (AN.Bl Y)) J) ?_;unfold LI;rw[As (by simpa using aE)];exact g7
   .rintro H5 ⟨s5,bs,U,J⟩;rw[xH,AR O,xm]at J;have aM:=AR O;have ar:=AR J;rw[xH]at ar;refine⟨fa,D5,_,_,rfl,rfl,s5 _ _ gf,U,?_,λp6 n6=>?_⟩
    .rw[xH,xH];exact AW Om
    refine⟨p6,_,_,_,_,rfl,s4.trans (s5.trans (AI n6)),fs++bs,?_,?_⟩
    .rw[AB,xX]
    .rw[take_succ N,c0];refine IT (Paired.BO (λ_ _ z=>LI.mono z (s5.trans (AI n6))) O) (Paired.BO (λ_ _ z=>LI.mono z ((Af _ _).trans (AI n6))) J)
  .rintro σ H4 ⟨fa,v1,v2,v3,v4,rfl,s4,B⟩;rw[xH,A9,xm]at B;exact⟨_,rfl,q H4 fa W (aC.trans s4) aA aB B⟩
end
theorem fB(a b:Nat):Builtin.bitXor (a:Int) (b:Int)=((a ^^^ b:Nat):Int):=by rw[sR.i6 (zm a) (zm b)];simp
section
variable{P:Program}{w:World}{K:PySem.W.Frag}{mg:Str->Option Value}{base:Heap}
inductive Mv(T:Txt w K mg)(vs:List V)(H:Hp)(Q:VK)(z3_:XK):Prop
 |mk (a b ms:Addr) (q r:Vbptal.Query) (_:vs=[.ref a,.ref b,.ref ms]) (_:sd T.CS H a q) (_:sd T.CS H b r) (_:kA q) (_:kA r) (_:Th q<=12) (_:Th r<=12) (_:Vbptal.weight q<=60) (_:Vbptal.weight r<=60) (_:Yc T.An H ms) (_:(Vbptal.apart q r=none->∀H',AN H H'->Q .non H')) (_:(∀x,Vbptal.apart q r=some x->∀(H':Hp)(p lw:Addr)(m:Nat),AN H H'->H' p=some (.tup [vn x.day,.ref lw,vn m])->LI H' lw x.words->x.words.length<=6->Vbptal.topics m=x.topics->Q (.ref p) H'))
abbrev wL(a b n z p2:Addr)(B:Hp)(q r:Vbptal.Query)(I:List (List Nat)):Nat->L2.St->Hp->Prop:=λi σ H'=>(∃v1 J L:Option V,σ=[some (.ref a),some (.ref b),some (.ref n),some (.ref z),some (.ref p2),some (vn (A2 MS)),v1,J,L])/\AN B H'/\∀j d,j<i->(Vbptal.dayList q r)[j]?=some d->(I.findSome? λw=>Lc q r d w)=none
abbrev vu(a b B I p2:Addr)(J:Hp)(q r:Vbptal.Query)(L:List (List Nat))(d:Nat):Nat->L2.St->Hp->Prop:=λj σ H'=>(∃M N:Option V,σ=[some (.ref a),some (.ref b),some (.ref B),some (.ref I),some (.ref p2),some (vn (A2 MS)),some (vn d),M,N])/\AN J H'/\∀n z,n<j->L[n]?=some z->Lc q r d z=none
theorem Mx(T:Txt w K mg):FB P w mg base T.HB 3 (Mv T):=by
 refine Ce T.HB Bd λa2 A aH s H vs Q E hr h=>?_;obtain⟨a,b,ms,q,r,rfl,⟨am,aI,an,aJ,aK,e1,ha,ao,Y,aL⟩,⟨ap,aM,aq,aN,aO,e2,hb,ar,aa,aP⟩,aQ,aR,a3,a4,a5,a6,hM,qn,qs⟩:=h;obtain⟨as,dm,au,a7⟩:=id hM;obtain⟨M,g1,av⟩:=id Y;obtain⟨N,g2,ax⟩:=id aa;refine⟨_,(AD (B6 3 Bd.nd (Ap DF (AO (pv 0) rfl) (AO (pv 1) rfl))) (AD (B6 4 Bd.nd (CI hr (Wc T) T.YA (AA (pv 3) AE))) (AD (B6 5 Bd.nd (AO (pv 2) rfl)) (AD (Bc xo rfl (BE (CI hr (VR T) T.Vr (AA (pv 3) AE))) (Dz 6 Bd.nd) (AF (Bc xo rfl (BE (pv 4)) (Dz 7 Bd.nd) (AD (B6 8 Bd.nd (Ap sZ (CI hr (K1 T) T.OX (AA (pv 0) (AA (pv 6) (AA (pv 7) (AA (pv 5) AE))))) (CI hr (K1 T) T.OX (AA (pv 1) (AA (pv 6) (AA (pv 7) (AA (pv 5) AE))))))) (AF (Ab (CA IA (pv 8) AL) (AF (AK (FI (AA (pv 6) (AA (pv 7) (AA (HN hr (pv 2) T.Bz T.Km (Ki T) (AA (pv 8) AE)) AE)))))) AQ)))))) (AF (AK B9)))))),?_⟩;dsimp only[A0,Cx.Ck];have aS:=AR av;have aT:=AR ax;rw[xH,De]at aS aT;refine AS ⟨_,rfl,a,_,am,_,_,rfl,ha,T.DZ,T.EC,ao.dJ,_,rfl,b,_,ap,_,_,rfl,hb,T.DZ,T.EC,ar.dJ,an,aq,_,_,rfl,rfl,g1,g2,?_,λpp aU=>?_⟩
 .rw[xH,xH];exact AW Om
 have s1:AN H (upd H pp (.lst (M.map V.ref++N.map V.ref))):=AI aU;have ae:GI (upd H pp (.lst (M.map V.ref++N.map V.ref))) pp ((post q).map Fc++(post r).map Fc):=
  ⟨M++N,by rw[AB,xX],IT (Paired.BO (λ_ _ z=>s1 _ _ z) av) (Paired.BO (λ_ _ z=>s1 _ _ z) ax)⟩
 generalize upd H pp (.lst (M.map V.ref++N.map V.ref))=H1 at s1 ae⊢;have ay:CP ((post q).map Fc++(post r).map Fc)=Vbptal.wordsIn q++Vbptal.wordsIn r:=by rw[Ct,UZ,UZ,Dj,Dj]
 have az:Bv ((post q).map Fc++(post r).map Fc)=Bv (post q)++Bv (post r):=by rw[BZ,Xa,Xa]
 have af:∀x∈Vbptal.wordsIn q++Vbptal.wordsIn r,x<6:=λx hx=>(xq.mp hx).elim (EE aQ x) (EE aR x);refine AS ⟨_,rfl,pp,_,rfl,ae,?_,by rw[ay];exact af,λH2 p2 W s2 aA ag I=>?_⟩
 .rw[xS,xH,xH,De,De];lia
 rw[ay]at ag;have aV:W.length<=6:=Vb aA λx hx=>⟨xi _,af x ((ag x).mp hx)⟩;have ab:∀n∈dbl W,n.length<=6:=λn J=>xr (Xt J) aV;rw[ik aA af ag]at I ab;have aB:=s1.trans s2;refine AS ⟨_,rfl,ms,_,as,_,_,rfl,aB _ _ au,T.Bz,T.EH,Z5 _,?_⟩;refine⟨_,rfl,pp,_,rfl,ae.mono s2,?_,λH3 p3 L s3 n3 aW aC hz=>?_⟩
 .rw[az,xS,E5,E5];lia
 rw[az]at aC;rw[fq aW aC]at hz;have aD:LI H3 p3 (Vbptal.dayList q r):=hz.n;have aE:=aB.trans s3;obtain⟨wa,gw,aF⟩:=I.mono s3;rw[bw]at qn qs;generalize a8:Vbptal.wordSets (Vbptal.wordsIn q++Vbptal.wordsIn r)=WS at*;refine⟨p3,rfl,⟨_,aD.sq⟩,Bh (K:=K) (a:=p3) (xs:=Bs (Vbptal.dayList q r))
  (wL a b ms pp p2 H3 q r WS)
  ⟨⟨_,_,_,rfl⟩,AN.refl _,λj d h=>absurd h (ACA _)⟩ (λi σ H' _ z=>(aD.mono z.2.1).sq) ?_ ?_⟩
 .rintro i v σ H4 hv ⟨⟨v1,v2,v3,rfl⟩,s4,O⟩;obtain⟨d,hd,rfl⟩:=FN hv;refine LV ?_;refine⟨_,rfl,p2,rfl,⟨_,Ah.of (s4 _ _ gw)⟩,Bh (K:=K) (a:=p2) (xs:=wa.map V.ref)
   (vu a b ms pp p2 H3 q r WS d)
   ⟨⟨_,_,rfl⟩,s4,λj d h=>absurd h (ACA _)⟩ (λi σ H' _ z=>Ah.of (z.2.1 _ _ gw)) ?_ ?_⟩
  .rintro j u σ H5 hu ⟨⟨v2,v3,rfl⟩,s5,B⟩;obtain⟨ya,aX,rfl⟩:=BK hu;obtain⟨n,J,ah⟩:=Av j ya aF aX;have ai:=aE.trans s5;refine LV (AS ⟨_,rfl,_,rfl,_,rfl,_,rfl,a,am,aI,an,aJ,ya,aK,e1,d,n,q,rfl,ai _ _ ha,ao,Y.mono ai,aL,ah.mono s5,λH6 s6=>?_⟩);have aj:=ai.trans s6;refine⟨_,rfl,_,rfl,_,rfl,_,rfl,b,ap,aM,aq,aN,ya,aO,e2,d,n,r,rfl,aj _ _ hb,ar,aa.mono aj,aP,ah.mono (s5.trans s6),λH7 s7=>⟨_,_,rfl,rfl,?_⟩⟩;have ak:=aj.trans s7;have aG:=s5.trans (s6.trans s7);dsimp only;rw[show V.int (Builtin.bitXor ((Fu n d q:Nat):Int) ((Fu n d r:Nat):Int))=vn (bitsOf (Fw q r d n) MS) by rw[fB,OH]];refine Ca (!decide (bitsOf (Fw q r d n) MS=0)) (λQ q=>⟨_,rfl,rfl,_,rfl,?_⟩) (λh=>?_) (λh=>?_)
   .rw[<-kB]at q;exact q
   .have aY:bitsOf (Fw q r d n) MS≠0:=by simpa using h
    obtain⟨m,hm⟩:∃m,MS.find? (Fw q r d n)=some m:=by
     cases z:MS.find? (Fw q r d n)with
     |none=>exact absurd (Ru.mpr λx hx=>by simpa using AAI.mp z x hx) aY
     |some m=>exact⟨m,rfl⟩
    have aZ:Lc q r d n=some ⟨Vbptal.topics m,n,d⟩:=by rw[Xl,hm];rfl
    have hit:=PL hd (f:=λd=>WS.findSome? λw=>Lc q r d w) (PL J aZ λU y h1 h2=>B U y h1 h2) λU y h1 h2=>O U y h1 h2;refine⟨_,rfl,_,rfl,_,rfl,ms,as,_,rfl,ak _ _ au,qB _ Dk Dk,_,rfl,ms,Fw q r d n,m,rfl,hM.mono ak,hm,λH8 s8=>⟨AW (by show 3<=1000;decide),λp9 n9=>?_⟩⟩;exact qs _ hit _ p9 ya m (ak.trans (s8.trans (AI n9))) AB (ah.mono (aG.trans (s8.trans (AI n9)))) (ab n (xO J)) rfl
   .have h0:bitsOf (Fw q r d n) MS=0:=by simpa using h
    refine⟨⟨_,_,rfl⟩,aG,λU a0 h1 h2=>?_⟩;by_cases e:U=j
    .subst e;rw[J]at h2;cases h2;exact dR (by rw[OH];exact h0)
    .exact B U a0 Om h2
  .rintro σ H5 ⟨⟨v2,v3,rfl⟩,s5,B⟩;refine⟨⟨_,_,_,rfl⟩,s5,λU d' h1 h2=>?_⟩;by_cases e:U=i
   .subst e;rw[hd]at h2;cases h2;refine Ng λa1 y h3=>B a1 y ?_ h3;rw[xH,AR aF];exact(xP.mp h3).1
   .exact O U d' Om h2
 .rintro σ H4 ⟨⟨v1,v2,v3,rfl⟩,s4,O⟩;refine qn (Ng λj y h3=>O j y ?_ h3) H4 (aE.trans s4);rw[Am];exact(xP.mp h3).1
inductive Y9(T:Txt w K mg)(vs:List V)(H:Hp)(Q:VK)(z3_:XK):Prop
 |mk (F:List Addr) (r:Addr) (s:Vbptal.State) (Mu:List Addr) (j k:Nat) (x:Vbptal.Asked) (_:vs=[.ref r,vn j,vn k]) (_:Rep T F H r s Mu) (_:B8 s) (_:s.asked[j]?=some (some x)) (_:k<4) (_:Ro H (Vbptal.act s (.same (j:Int) (k:Int))).2 Q)
theorem Y1(T:Txt w K mg):FB P w mg base T.Rg 4 (Y9 T):=by
 refine Ce T.Rg QR λaf A N s H vs Q E J h=>?_;obtain⟨F,r,st,Mu,j,k,x,rfl,hR,ok,O,U,q⟩:=h;obtain⟨dx,le,lp,lq,lm,es,ps,qs,fs,R⟩:=id hR;rw[show Vbptal.act st (.same (j:Int) (k:Int))=_ from FH O]at q;obtain⟨a,Y,hQ⟩:=R.u4 ok O;have hM:=R.ms.mono (Af _ _);have n:=ok.KU x (xO O);refine⟨_,(AD (Ab (Ba (A7 (HN J (pv 0) T.AM T.FV (FX T) (AA (pv 2) AE)))) (AF (AK (AZ (AA (gi T.T7) AE)))) AQ) (AD (B6 3 QR.nd (CI J (Mx T) T.OU (AA (Cv (AO (pv 0) rfl) (pv 1)) (AA (Cv (AO (pv 0) rfl) (pv 2)) (AA (AO (pv 0) rfl) AE))))) (AD (Ab (CA Ra (pv 3) B9) (AF (AK (AZ (AA AL AE)))) AQ) (AF (AK (Ap DF (Ap DF (AZ (AA AL (AA (Gs Em (pv 3) AL (λ_ _=>rfl)) AE))) (CI J (Cs T) T.DQ (AA (Gs Em (pv 3) AL (λ_ _=>rfl)) AE))) (CI J (Cs T) T.DQ (AA (CI J (O9 T) T.SN (AA (Gs Em (pv 3) AL (λ_ _=>rfl)) AE)) AE)))))))),?_⟩;dsimp only[A0,Cx.Ck];obtain⟨y,L⟩:=HE (l:=st.asked) (i:=k) (xR (by rw[ok.places];exact U));refine AU (!y.isSome) (λQ q=>⟨_,rfl,r,dx,_,rfl,R.BP,R.rf.n5,_,rfl,F,r,st,Mu,k,y,rfl,hR,L,_,rfl,q⟩) (λh=>?_) (λh=>?_)
 .have:y=none:=by cases y<;> first|rfl|cases h
  subst this;rw[G6 L]at q;exact⟨AW Dc,q.lst (AN.refl _) rfl⟩
 cases y with
 |none=>cases h
 |some y=>
  rw[FH L]at q;obtain⟨b,aa,ab⟩:=R.u4 ok L;have B:=ok.KU y (xO L);refine AS ⟨_,rfl,r,_,dx,_,_,rfl,R.BP,T.AM,T.BG,R.rf.WJ,_,rfl,lq,_,_,_,rfl,rfl,Ah.of R.ql,at_of (j:=j) rfl Y,_,rfl,r,_,dx,_,_,rfl,R.BP,T.AM,T.BG,R.rf.WJ,_,rfl,lq,_,_,_,rfl,rfl,Ah.of R.ql,at_of (j:=k) rfl aa,
   _,rfl,r,_,dx,_,_,rfl,R.BP,T.AM,T.Br,R.rf.uy,a,b,lm,x.query,y.query,rfl,hQ,ab,n.q,B.q,n.Wh,B.Wh,n.wt,B.wt,hM,λhn H1 s1=>?_,λz hz H1 p1 lw m s1 I ae ag M=>?_⟩
  .refine AU true (λQ q=>⟨_,rfl,rfl,_,rfl,q⟩) (λ_=>?_) (λh=>by cases h);rw[hn]at q;exact⟨AW Dc,q.lst s1 rfl⟩
  refine AU false (λQ q=>⟨_,rfl,rfl,_,rfl,q⟩) (λh=>by cases h) (λ_=>?_);rw[hz]at q;have q:Ro H (0::(z.day:Int)::Vbptal.counted z.words++Vbptal.counted z.topics) Q:=q;refine⟨_,rfl,p1,_,_,_,rfl,rfl,Cd.of I,at_of (j:=0) rfl rfl,AW (by show 2<=1000;decide),λp2 n2=>?_⟩;have s2:=AI (o:=.lst [V.int 0,vn z.day]) n2;refine⟨_,rfl,p1,_,_,_,rfl,rfl,Cd.of (s2 _ _ I),at_of (j:=1) rfl rfl,lw,_,rfl,(ae.mono s2).z,by rw[A9];lia,λH3 p3 s3 n3 g3=>?_⟩;rw[<-DE]at g3;refine⟨p2,p3,_,_,rfl,rfl,s3 _ _ AB,g3,?_,λp4 n4=>?_⟩
  .rw[xH,A6];exact AW (by show 2+_<=_;lia)
  have s4:=(s2.trans s3).trans (AI (o:=.lst ([V.int 0,vn z.day]++(Vbptal.counted z.words).map V.int)) n4);refine⟨_,rfl,p1,_,_,_,rfl,rfl,Cd.of (s4 _ _ I),at_of (j:=2) rfl rfl,m,rfl,λH5 p5 s5 n5 g5=>⟨p5,_,rfl,g5.z,?_,λH6 p6 s6 n6 g6=>?_⟩⟩
  .rw[A9];have:=Ge m;lia
  rw[<-DE,M]at g6;have ah:z.topics.length<=12:=by rw[<-M];exact Ge m
  refine⟨p4,p6,_,_,rfl,rfl,s6 _ _ (s5 _ _ AB),g6,?_,q.lst (s1.trans (s4.trans (s5.trans s6))) ?_⟩
  .rw[xS,xH,xH,A6,A6];exact AW (by show 2+_+_<=_;lia)
  .rw[xX];rfl
end
theorem X5:∀{l q:List β},l.Perm q->∀m:List J,q=m.map g->∃n:List J,n.Perm m/\l=n.map g:=by
 intro l q h
 induction h with
 |nil=>intro m j;cases m with
  |nil=>exact⟨[],.nil,rfl⟩
  |cons a m=>cases j
 |cons x p L=>intro m j;cases m with
  |nil=>cases j
  |cons a m=>
   injection j with h1 h2
   obtain⟨n,I,p2⟩:=L m h2;exact⟨a::n,I.cons a,by rw[yE,h1,p2]⟩
 |swap x y l=>intro m j;match m,j with
  |a::b::m,j=>
   injection j with h1 h2
   injection h2 with h2 M
   exact⟨b::a::m,.swap _ _ _,by rw[yE,yE,h1,h2,M]⟩
 |trans I p2 z B=>intro m j;obtain⟨N,O,U⟩:=B m j;obtain⟨Y,q3,q4⟩:=z N U;exact⟨Y,q3.trans O,q4⟩
noncomputable def jV(r:Rk):List Nat:=[r.1,r.2.1,r.2.2]
def tK(r:Rk):Int×Int:=(-((Ox r.2:Nat):Int),(r.1:Int))
theorem cy(f:j->q)(g:n->z):∀(l:List j)(m:List n),(l.map f).zip (m.map g)=(l.zip m).map λp=>(f p.1,g p.2)
 |[],m=>by simp
 |a::l,[]=>by simp
 |a::l,b::m=>by simp[cy f g l m]
theorem iK:∀{l:List j}{m:List n},l.length=m.length->(l.zip m).map (·.1)=l
 |[],_,_=>by simp
 |a::l,[],h=>by simp at h
 |a::l,b::m,h=>by have:=iK (l:=l) (m:=m) (by simpa using h);simp[this]
theorem fh{j n:Type}{R:n->j->Prop}{l:List j}{m:List n}(g:Paired R m l):∀p∈l.zip m,R p.2 p.1:=by
 induction g with
 |nil=>intro p h;cases h
 |cons r t q=>
  intro p h;rcases xb.mp h with e|e
  .subst e;exact r
  .exact q p e
theorem i3(ok:B8 s)(N:Paired (λa r=>LI H a (jV r)) as (Co s q))(U:Jj ((Co s q).map tK) (as.map V.ref) ys):
  ∃bs:List Addr,ys=bs.map V.ref/\Paired (λa r=>LI H a (jV r)) bs (Vbptal.rankedOf s q):=by
 obtain⟨qs,h1,h2,J⟩:=U;rw[cy]at h1;obtain⟨m,L,rfl⟩:=X5 h1 _ rfl;have Y:=AR N;have j:(m.map (·.1)).Perm (Co s q):=by have:=L.map (·.1);rwa[iK Y.symm]at this
 have I:(m.map (·.1)).Pairwise λa b=>a.1≠b.1:=by
  have h5:=(ER ok q).2;have h6:((Co s q).map (·.1)).Nodup:=by unfold List.Nodup;rw[zK];exact h5.imp λh=>x6 h
  have M:((m.map (·.1)).map (·.1)).Nodup:=(j.map (·.1)).nodup_iff.mpr h6;unfold List.Nodup at M;rw[zK]at M;exact M
 have n:(m.map (·.1)).Pairwise before:=by
  rw[zK]at J;rw[zK]at I⊢;refine(List.Pairwise.and J I).imp λ{a b}⟨z1,z2⟩=>?_;rcases z1 with z|⟨z,O⟩
  .have z: -((Ox a.1.2:Nat):Int)< -((Ox b.1.2:Nat):Int):=z;exact .inl Om
  .have z: -((Ox a.1.2:Nat):Int)= -((Ox b.1.2:Nat):Int):=z;have O:((a.1.1:Nat):Int)<=((b.1.1:Nat):Int):=O;exact .inr ⟨Om,by have:=z2;lia⟩
 have heq:=Sz ok q j n;refine⟨m.map (·.2),?_,?_⟩
 .rw[h2,yg,yg];rfl
 .rw[<-heq];have B:∀p∈m,LI H p.2 (jV p.1):=λp hp=>fh N p (L.mem_iff.mp hp);clear n I j L h1 h2 J heq
  induction m with
  |nil=>exact .nil
  |cons p m ih=>exact .cons (B p (xl ..)) (ih λx hx=>B x (xY _ hx))
section
variable{P:Program}{w:World}{K:PySem.W.Frag}{mg:Str->Option Value}{base:Heap}
inductive ot(vs:List V)(H:Hp)(Q:VK)(z3_:XK):Prop
 |mk (a:Addr) (r:Rk) (_:vs=[.ref a]) (_:LI H a (jV r)) (_:0<r.2.2) (_:r.2.2<=100000) (_:r.2.1<=100000) (_:∀t,H t=none->Q (.ref t) (upd H t (.tup [.int (tK r).1,.int (tK r).2])))
theorem pA(T:Txt w K mg):FB P w mg base T.ku 1 ot:=by
 refine Ce T.ku oi λB A z s H vs Q E L h=>?_;obtain⟨a,r,rfl,I,M,h1,h2,q⟩:=h;refine⟨_,(AF (AK (FI (AA (Ln Gv (Ap dh (Ap ZM (Ap sC AL AL) (Cv (pv 0) AL)) (Cv (pv 0) AL))) (AA (Cv (pv 0) AL) AE))))),?_⟩;dsimp only[A0,Cx.Ck];have n:H a=some (.lst [vn r.1,vn r.2.1,vn r.2.2]):=I;refine⟨_,_,rfl,rfl,⟨Dc,Dc,Dc⟩,_,rfl,a,_,_,_,rfl,rfl,Ah.of n,at_of (j:=2) rfl rfl,_,_,rfl,rfl,⟨Om,Om⟩,_,rfl,a,_,_,_,rfl,rfl,Ah.of n,at_of (j:=1) rfl rfl,_,_,rfl,rfl,.inr ⟨Om,Om⟩,_,rfl,_,rfl,a,_,_,_,rfl,rfl,Ah.of n,at_of (j:=0) rfl rfl,AW (by show 2<=1000;decide),λt J=>?_⟩;have:=q t J;have e:(tK r).1= -((27720:Int) ^ (3:Int).toNat / (r.2.2:Int)* (r.2.1:Int)):=by show -(((NN / r.2.2*r.2.1:Nat)):Int)=_;rw[Int.natCast_mul,Int.natCast_ediv];rfl
 rw[e]at this;exact this
inductive T4(T:Txt w K mg)(vs:List V)(H:Hp)(Q:VK)(z3_:XK):Prop
 |mk (F:List Addr) (r:Addr) (s:Vbptal.State) (Mu:List Addr) (k:Nat) (x:Vbptal.Asked) (_:vs=[.ref r,vn k]) (_:Rep T F H r s Mu) (_:B8 s) (_:s.asked[k]?=some (some x)) (_:Ro H (Vbptal.act s (.ranked (k:Int))).2 Q)
theorem lI(l:List Rk):(l.flatMap jV).length=3*l.length:=by
 induction l with
 |nil=>rfl
 |cons a l j=>rw[zJ,xS,j,xg];show 3+_=_;lia
abbrev vw(r ds:Addr)(k:Nat)(j:Hp)(st:Vbptal.State)(x:Vbptal.Asked):Nat->L2.St->Hp->Prop:=λi σ H'=>(∃v1 n q v4:Option V,σ=[some (.ref r),some (vn k),some (.ref ds),v1,n,q,v4])/\(∀b o,b≠ds->j b=some o->H' b=some o)/\∃bs:List Addr,H' ds=some (.lst (bs.map V.ref))/\Paired (λa r=>LI (CE.Bl [ds] H') a (jV r)) bs (GW st x.query i)
abbrev vV(r ds te:Addr)(k:Nat)(j:Hp)(st:Vbptal.State)(x:Vbptal.Asked)(bs:List Addr):Nat->L2.St->Hp->Prop:=λi σ H'=>(∃v1 n v4:Option V,σ=[some (.ref r),some (vn k),some (.ref ds),v1,n,some (.ref te),v4])/\(∀b o,b≠te->j b=some o->H' b=some o)/\LZ H' te (((bs.map V.ref).length:Nat)::Vbptal.ints (((Vbptal.rankedOf st x.query).take i).flatMap jV))
theorem Tp(T:Txt w K mg):FB P w mg base T.NU 5 (T4 T):=by
 refine Ce T.NU C2 λaR A az s H vs Q E hr h=>?_;obtain⟨F,r,st,Mu,k,x,rfl,hR,ok,hx,q⟩:=h;rw[show Vbptal.act st (.ranked (k:Int))=_ from FH hx]at q;have q:Ro H (((Vbptal.rankedOf st x.query).length:Int)::Vbptal.ints ((Vbptal.rankedOf st x.query).flatMap jV)) Q:=q;have aA:=ok.Vk;refine⟨_,(AD (B6 2 C2.nd (AZ AE)) (AD (Bc xo rfl (PN rfl T.EU (AA (CI hr (IG T) T.Jv (AA (pv 0) (AA (pv 1) AE))) AE)) (DT rfl (Ak (Dz 3 C2.nd) (Ak (Dz 4 C2.nd) CY))) (AF (Ab (CA HV (Gs Em (pv 4) AL (λ_ _=>rfl)) AL) (AF (A3 (Cn xa xw xx BD (pv 2) (AA (Ap DF (AZ (AA (pv 3) AE)) (CI hr (KW T) T.LL (AA (pv 4) AE))) AE)))) AQ))) (AD (B6 5 C2.nd (AZ (AA (IM T.Be (pv 2)) AE))) (AD (Bc xo rfl (BE (nA (pA T) λa b=>di a (hr.mono Dc) rfl T.U7 J5 rfl T.qG b (AA (pv 2) AE))) (Dz 6 C2.nd) (AF (A3 (Cn xa yx yy FA (pv 5) (AA (pv 6) AE))))) (AF (AK (pv 5))))))),?_⟩;dsimp only[A0,Cx.Ck];refine AS ⟨xi _,λds n1=>?_⟩;have s2:AN H (upd H ds (.lst [])):=AI n1;have g1:(upd H ds (.lst [])) ds=some (.lst []):=AB;generalize upd H ds (.lst [])=H2 at s2 g1⊢;refine⟨_,rfl,_,rfl,F,r,st,Mu,k,x,rfl,hR.mono s2,ok,hx,λH3 p3 s3 n3 aB=>?_⟩;obtain⟨as,gp,pr⟩:=id aB;have aC:p3≠ds:=λz=>by rw[z,g1]at n3;cases n3
 have am:(as.map V.ref).length=st.papers.length:=by rw[xH,AR pr];unfold E4;rw[xH]
 have aD:=s2.trans s3;refine⟨p3,_,rfl,Ah.of gp,L6 (K:=K) (a:=p3) (xs:=as.map V.ref)
  (vw r ds k H3 st x)
  ⟨⟨_,_,_,_,rfl⟩,λ_ _ _ z=>z,[],s3 _ _ g1,.nil⟩ (λi σ H' _ z=>Ah.of (z.2.1 _ _ aC gp)) ?_ ?_⟩
 .rintro i v σ Y T0 hv ⟨⟨v1,v2,v3,v4,rfl⟩,hk,bs,h5,hb⟩ nT;obtain⟨I,N,rfl⟩:=BK hv;obtain⟨sv,J,aa⟩:=Av i I pr N;obtain⟨y,hy,rfl⟩:∃y,st.papers[i]?=some y/\sv=(Vbptal.yes x.query y,(Vbptal.meanings y).length):=by
   unfold E4 at J;rw[xh]at J;cases z:st.papers[i]? with
   |none=>rw[z]at J;cases J
   |some y=>rw[z]at J;exact⟨y,rfl,(xn J).symm⟩
  have aE:=(xP.mp hy).1;have O:=ok.Fy y (xO hy);have aa:H3 I=some (.tup [vn (Vbptal.yes x.query y),vn (Vbptal.meanings y).length]):=aa;have aF:I≠ds:=Dv aa (s3 _ _ g1) (by intro z;cases z);have n:=AI (o:=.tup [.int (i:Nat),.ref I]) nT;have U:=n _ _ (hk _ _ aF aa);have l5:=n _ _ h5;have k5:∀b o,b≠ds->H3 b=some o->(upd Y T0 (.tup [.int (i:Nat),.ref I])) b=some o:=λb o h1 z=>n _ _ (hk b o h1 z);have L:Paired (λa r=>LI (CE.Bl [ds] (upd Y T0 (.tup [.int (i:Nat),.ref I]))) a (jV r)) bs (GW st x.query i):=Paired.BO (λ_ _ z=>LI.mono z (AN.Bl n)) hb;have an:=ZV (q:=x.query) hy;have aG:=OK st x.query i;have ai:=AR hb;refine⟨T0,_,rfl,Cd.of AB,rfl,_,_,rfl,_,_,rfl,rfl,?_⟩;generalize upd Y T0 (.tup [.int (i:Nat),.ref I])=H5 at U l5 k5 L⊢;refine Ca (decide (0<Vbptal.yes x.query y)) (λQ q=>⟨_,rfl,I,_,_,_,rfl,rfl,Cd.of U,at_of (j:=0) rfl rfl,_,_,rfl,rfl,_,rfl,?_⟩) (λh2=>?_) (λh2=>?_)
  .rw[<-IS]at q;exact q
  .have h2:=xI h2;have aS:=Hh O;refine⟨_,rfl,.inl ⟨rfl,_,Ah.of l5⟩,_,rfl,AW (by show 1<=1000;decide),λp6 n6=>?_⟩;have aj:=AI (o:=.lst [vn i]) n6;refine⟨_,rfl,I,Vbptal.yes x.query y,(Vbptal.meanings y).length,rfl,aj _ _ U,Ei O,df _ _,Om,λH7 p7 s7 n7 g7=>?_⟩;refine⟨p6,p7,_,_,rfl,rfl,s7 _ _ AB,g7,AW (by show 1+2<=1000;decide),λp8 n8=>?_⟩;have ab:=aj.trans (s7.trans (AI (o:=.lst ([vn i]++Bs [Vbptal.yes x.query y / Nat.gcd (Vbptal.meanings y).length (Vbptal.yes x.query y),(Vbptal.meanings y).length / Nat.gcd (Vbptal.meanings y).length (Vbptal.yes x.query y)])) n8));have g8:LI (upd H7 p8 (.lst ([vn i]++Bs [Vbptal.yes x.query y / Nat.gcd (Vbptal.meanings y).length (Vbptal.yes x.query y),(Vbptal.meanings y).length / Nat.gcd (Vbptal.meanings y).length (Vbptal.yes x.query y)]))) p8 (jV (i,Vbptal.likely x.query y)):=by
    unfold LI;rw[AB,Im O];rfl
   have ao:=ab _ _ l5;have ap:H5 p8=none:=aj.free (s7.free n8);have aH:p8≠ds:=λz=>by rw[z,l5]at ap;cases ap
   generalize(upd H7 p8 (.lst ([vn i]++Bs [Vbptal.yes x.query y / Nat.gcd (Vbptal.meanings y).length (Vbptal.yes x.query y),(Vbptal.meanings y).length / Nat.gcd (Vbptal.meanings y).length (Vbptal.yes x.query y)])))=H8 at ab g8 ao⊢;refine⟨ds,_,_,rfl,rfl,ao,?_,⟨_,_,_,_,rfl⟩,λb o h1 z=>by rw[AG h1];exact ab _ _ (k5 b o h1 z),bs++[p8],?_,?_⟩
   .rw[xH];exact Az Om
   .rw[AB,xX];rfl
   .have aI:(Vbptal.likely x.query y).1≠0:=λz=>by have:=(SK (q:=x.query) O).mp z;lia
    rw[an,xQ aI,Ga (by simp)];refine BR (Paired.BO (λ_ _ z=>LI.mono z (AN.Bl ab)) L) ?_;unfold LI;rw[As (by simpa using aH)];exact g8
  .have h2:=xc h2;have h0:(Vbptal.likely x.query y).1=0:=(SK (q:=x.query) O).mpr Om;refine⟨⟨_,_,_,_,rfl⟩,k5,bs,l5,?_⟩;rw[an,xJ (by rw[h0];decide),yJ];exact L
 .rintro σ Y ⟨⟨v1,v2,v3,v4,rfl⟩,hk,bs,h5,hb⟩;rw[am,Lr]at hb;have aq:AN H Y:=λb o z=>hk b o (AH z n1) (aD _ _ z);have ai:=AR hb;have aG:(Co st x.query).length<=12:=by rw[<-Lr];exact xr (OK st x.query _) aA
  have aJ:(Vbptal.rankedOf st x.query).length=(Co st x.query).length:=by rw[Ri];exact((Lu _ (ER ok x.query).1 (ER ok x.query).2).1).length_eq
  refine⟨_,rfl,ds,_,rfl,.inl (Ah.of h5),AW (by show 1<=1000;decide),λte ar=>?_⟩;have n:AN Y (upd Y te (.lst [V.int ((bs.map V.ref).length:Nat)])):=AI ar;have B:LZ (upd Y te (.lst [V.int ((bs.map V.ref).length:Nat)])) te [((bs.map V.ref).length:Nat)]:=AB;have ag:H te=none:=aq.free ar;generalize upd Y te (.lst [V.int ((bs.map V.ref).length:Nat)])=H5 at n B⊢;have L:Paired (λa r=>LI H5 a (jV r)) bs (Co st x.query):=Paired.BO (λ_ _ z=>LI.mono z ((Af _ _).trans n)) hb;refine⟨_,rfl,ds,bs.map V.ref,(Co st x.query).map tK,rfl,Ah.of (n _ _ h5),by rw[xH,xH,ai],by rw[xH];lia,λi v z hv hz H' aK=>?_,λD H6 ys s6 nD hD aL=>?_⟩
  .obtain⟨I,N,rfl⟩:=BK hv;obtain⟨r0,M,ae⟩:=Av i I L N;rw[xh,M]at hz;cases hz;have au:=(ER ok x.query).1 r0 (xO M);have aT:r0.2.2<=1728/\r0.2.1<=1728:=by
    have ah:=xO M;unfold Co at ah;obtain⟨⟨py,pi⟩,aM,aN⟩:=x5.mp (yH.mp ah).1;have aO:py∈st.papers:=(List.mem_zipIdx' aM).2▸AAX _;have ak:=ok.Fy py aO;rw[<-aN];show(Vbptal.likely x.query py).2<=1728/\(Vbptal.likely x.query py).1<=1728;rw[Im ak];exact⟨xr (Nat.div_le_self _ _) (Hh ak),xr (Nat.div_le_self _ _) (xr (df _ _) (Hh ak))⟩
   exact⟨I,r0,rfl,ae.mono aK,au.1,Om,Om,λt nt=>⟨t,rfl,AI nt,AB⟩⟩
  .obtain⟨cs,rfl,av⟩:=i3 ok L aL;have aP:=AR av;have ax:te≠D:=λz=>by unfold LZ at B;rw[z,nD]at B;cases B
   refine⟨D,rfl,⟨_,Ah.of hD⟩,Bh (K:=K) (a:=D) (xs:=cs.map V.ref)
    (vV r ds te k H6 st x bs)
    ⟨⟨_,_,_,rfl⟩,λ_ _ _ z=>z,B.mono s6⟩ (λi σ H' _ z=>Ah.of (z.2.1 _ _ (x8 ax) hD)) ?_ ?_⟩
   .rintro i v σ H7 hv ⟨⟨v1,v2,v4,rfl⟩,af,h7⟩;obtain⟨I,N,rfl⟩:=BK hv;obtain⟨r0,M,ae⟩:=Av i I av N;have aE:=(xP.mp M).1;have aQ:I≠te:=λz=>by
     have h9:H5 te=some (.lst (Bs (jV r0))):=by rw[<-z];exact ae
     unfold LZ at B;rw[h9]at B;have:=x3 (λo=>match o with|some (HO.lst l)=>l.length|_=>0) B;exact absurd this (by show¬3=1;decide)
    have ay:=af _ _ aQ (s6 _ _ ae);refine⟨_,rfl,.inl ⟨rfl,_,Ah.of h7⟩,_,rfl,te,I,_,_,rfl,rfl,h7,ay,?_,⟨_,_,_,rfl⟩,λb o h1 z=>by rw[AG h1];exact af b o h1 z,?_⟩
    .rw[xH,xg,A9,lI,xt,Am];exact AW (by show _+3<=1000;lia)
    .unfold LZ;rw[AB,take_succ M,yt];refine x3 (λz=>some (HO.lst z)) ?_;rw[Fn,<-xX];refine x3 (List.map V.int) ?_;rw[zT];refine x3 (List.cons _) ?_;unfold Vbptal.ints;rw[xX];simp
   .rintro σ H7 ⟨⟨v1,v2,v4,rfl⟩,af,h7⟩;rw[xH,xH,aP,xm]at h7;refine⟨_,rfl,q H7 te (λb o z=>af b o (AH z ag) (s6 _ _ (n _ _ (aq _ _ z)))) ag ?_⟩;rw[ai,<-aJ]at h7;exact h7
inductive LG(T:Txt w K mg)(vs:List V)(H:Hp)(Q:VK)(z3_:XK):Prop
 |mk (F:List Addr) (r:Addr) (s:Vbptal.State) (Mu:List Addr) (d:Vbptal.Call) (ln lr:Addr) (_:vs=[.ref r,vn (tag d),.ref ln,.ref lr]) (_:Rep T F H r s Mu) (_:B8 s) (_:Vbptal.inRange d=true) (_:LZ (CE.Bl Mu H) ln (nums d)) (_:LC (CE.Bl Mu H) lr (Bi d)) (_:11<=tag d) (_:tag d<=17) (_:Wr T F H r Mu (Vbptal.act s d).1 (Vbptal.act s d).2 Q)
theorem uN{d:Vbptal.Call}(h1:11<=tag d)(h2:tag d<=17)(q:Vbptal.inRange d=true):∃(k:Nat)(rest:List Int),nums d=(k:Int)::rest/\k<=3:=by
 have z:∀{n:Int}(l:List Int),Vbptal.isPlace n=true->∃(k:Nat)(rest:List Int),n::l=(k:Int)::rest/\k<=3:=λl h=>by obtain⟨m,rfl,B⟩:=Aj (k:=3) h;exact⟨m,l,rfl,B⟩
 cases d with
 |ask k e t=>exact z _ (xT.mp q).1
 |asks k=>exact z _ q
 |find k=>exact z _ q
 |likely k p=>exact z _ (xT.mp q).1
 |ranked k=>exact z _ q
 |same j k=>exact z _ (xT.mp q).1
 |news k=>exact z _ q
 |counts=>exact absurd h2 (xI rfl)
 |_=>exact absurd h1 (xI rfl)
theorem qz{d:Vbptal.Call}{st:Vbptal.State}{k:Nat}{rest:List Int}(h1:12<=tag d)(h2:tag d<=17)(j:nums d=(k:Int)::rest)(n:st.asked[k]?=some none):Vbptal.act st d=(st,[-8]):=by
 cases d with
 |asks q=>cases j;exact G6 n
 |find q=>cases j;exact G6 n
 |likely q p=>cases j;exact G6 n
 |ranked q=>cases j;exact G6 n
 |same q p=>cases j;exact G6 n
 |news q=>cases j;exact G6 n
 |counts=>exact absurd h2 (xI rfl)
 |_=>exact absurd h1 (xI rfl)
theorem LS(T:Txt w K mg):FB P w mg base T.Fz 8 (LG T):=by
 refine Ce T.Fz FZ λau A Y s H vs Q E M h=>?_;obtain⟨F,r,st,Mu,d,N,lr,rfl,z,ok,L,hn,hw,ht,O,q⟩:=h;obtain⟨dx,le,lp,lq,lm,es,ps,qs,fs,R⟩:=id z;refine⟨_,(AD (B6 4 FZ.nd (Cv (pv 2) AL)) (AD (Ab (CA A5 (pv 1) AL) (AF (AK (CI M (YP T) T.bN (AA (pv 0) (AA (pv 4) (AA (Cv (pv 2) AL) (AA (Cv (pv 3) AL) AE))))))) AQ) (AD (Ab (Ba (A7 (HN M (pv 0) T.AM T.FV (FX T) (AA (pv 4) AE)))) (AF (AK (AZ (AA (gi T.T7) AE)))) AQ) (AD (Ab (CA A5 (pv 1) AL) (AF (AK (CI M (Vt T) T.Yj (AA (Cv (AO (pv 0) rfl) (pv 4)) AE)))) AQ) (AD (Ab (CA A5 (pv 1) AL) (AF (AK (CI M (Wo T) T.ZP (AA (pv 0) (AA (pv 4) AE))))) AQ) (AD (Ab (CA A5 (pv 1) AL) (AF (AK (CI M (UW T) T.Vp (AA (pv 0) (AA (pv 4) (AA (Cv (pv 2) AL) AE)))))) AQ) (AD (Ab (CA A5 (pv 1) AL) (AF (AK (CI M (Tp T) T.WE (AA (pv 0) (AA (pv 4) AE))))) AQ) (AD (Ab (CA A5 (pv 1) AL) (AF (AK (CI M (Y1 T) T.Zs (AA (pv 0) (AA (pv 4) (AA (Cv (pv 2) AL) AE)))))) AQ) (AF (AK (CI M (YY T) T.bF (AA (pv 0) (AA (pv 4) AE))))))))))))),?_⟩;dsimp only[A0,Cx.Ck];have I:LZ H N (nums d):=hn.mono (Af _ _);obtain⟨k,rest,n,av⟩:=uN ht O L;have aa:H N=some (.lst (vn k::rest.map V.int)):=by unfold LZ at I;rw[I,n];rfl
 refine AS ⟨_,rfl,N,_,_,_,rfl,rfl,Ah.of aa,at_of (j:=0) rfl rfl,?_⟩;refine AU (decide (tag d=11)) (λQ q=>⟨_,rfl,rfl,_,rfl,IE (b:=11) q⟩) (λh=>?_) (λh0=>?_)
 .obtain⟨B,e,t,rfl⟩:=qe (xI h);have hi:=xT.mp L;have hj:=xT.mp hi.2;obtain⟨e,rfl,_⟩:=Aj (k:=3) hj.1;obtain⟨u,rfl,hu,_⟩:=Zh (m:=60) hj.2;obtain⟨as,b,g1,g2,g3⟩:=hw.get (i:=0) (l:=Vbptal.ints u) rfl;have e1:B=(k:Int):=by injection n
  subst e1;exact⟨_,rfl,_,rfl,_,rfl,N,_,_,_,rfl,rfl,Ah.of I,at_of (j:=1) rfl rfl,_,rfl,lr,_,_,_,rfl,rfl,Ah.of (Af _ _ _ _ g1),at_of (j:=0) rfl g2,F,r,st,Mu,k,e,b,u,rfl,z,ok,Om,g3.n,Om,q⟩
 have ab:=xc h0;obtain⟨y,J⟩:=HE (l:=st.asked) (i:=k) (xR (by rw[ok.places];lia));refine AU (!y.isSome) (λQ q=>⟨_,rfl,r,dx,_,rfl,R.BP,R.rf.n5,_,rfl,F,r,st,Mu,k,y,rfl,z,J,_,rfl,q⟩) (λh=>?_) (λh=>?_)
 .have:y=none:=by cases y<;> first|rfl|cases h
  subst this;exact⟨AW Dc,q.say z (qz (Nat.lt_of_le_of_ne ht (x8 ab)) O n J) (AN.refl _)⟩
 cases y with
 |none=>cases h
 |some y=>
  obtain⟨a,t,ax,ae,af,lt,ag,ah,ai,qf,aj,ay,az⟩:=R.va J;have ak:=ok.KU y (xO J);refine AU (decide (tag d=12)) (λQ q=>⟨_,rfl,rfl,_,rfl,IE (b:=12) q⟩) (λh=>?_) (λam=>?_)
  .obtain⟨B,rfl⟩:=rC (xI h);have e1:B=(k:Int):=by injection n
   subst e1;have U:=q.rd z (Gf λ_=>rfl);rw[show Vbptal.act st (.asks (k:Int))=_ from FH J]at U;exact⟨_,rfl,r,_,dx,_,_,rfl,R.BP,T.AM,T.BG,R.rf.WJ,_,rfl,lq,_,_,_,rfl,rfl,Ah.of R.ql,at_of (j:=k) rfl ae,a,af,lt,ag,t,ah,y.edition,y.text,rfl,Af _ _ _ _ ai,qf,aj.mono (Af _ _),by have:=ak.len;lia,U⟩
  refine AU (decide (tag d=13)) (λQ q=>⟨_,rfl,rfl,_,rfl,IE (b:=13) q⟩) (λh=>?_) (λan=>?_)
  .obtain⟨B,rfl⟩:=qj (xI h);have e1:B=(k:Int):=by injection n
   subst e1;exact⟨_,rfl,_,rfl,F,r,st,Mu,k,y,rfl,z,ok,J,q.rd z (Gf λ_=>rfl)⟩
  refine AU (decide (tag d=14)) (λQ q=>⟨_,rfl,rfl,_,rfl,IE (b:=14) q⟩) (λh=>?_) (λao=>?_)
  .obtain⟨B,p,rfl⟩:=rZ (xI h);have e1:B=(k:Int):=by injection n
   subst e1;obtain⟨p,rfl,_⟩:=Aj (k:=11) (xT.mp L).2;exact⟨_,rfl,_,rfl,_,rfl,N,_,_,_,rfl,rfl,Ah.of I,at_of (j:=1) rfl rfl,F,r,st,Mu,k,p,y,rfl,z,ok,J,q.rd z (Gf λ_=>Ww λ_=>rfl)⟩
  refine AU (decide (tag d=15)) (λQ q=>⟨_,rfl,rfl,_,rfl,IE (b:=15) q⟩) (λh=>?_) (λap=>?_)
  .obtain⟨B,rfl⟩:=qW (xI h);have e1:B=(k:Int):=by injection n
   subst e1;exact⟨_,rfl,_,rfl,F,r,st,Mu,k,y,rfl,z,ok,J,q.rd z (Gf λ_=>rfl)⟩
  refine AU (decide (tag d=16)) (λQ q=>⟨_,rfl,rfl,_,rfl,IE (b:=16) q⟩) (λh=>?_) (λaq=>?_)
  .obtain⟨B,j,rfl⟩:=rT (xI h);have e1:B=(k:Int):=by injection n
   subst e1;obtain⟨j,rfl,hj⟩:=Aj (k:=3) (xT.mp L).2;exact⟨_,rfl,_,rfl,_,rfl,N,_,_,_,rfl,rfl,Ah.of I,at_of (j:=1) rfl rfl,F,r,st,Mu,k,j,y,rfl,z,ok,J,Om,q.rd z (Gf λ_=>Gf λ_=>rfl)⟩
  have ar:tag d=17:=by have:=xc am;have:=xc an;have:=xc ao;have:=xc ap;have:=xc aq;lia
  obtain⟨B,rfl⟩:=qJ ar;have e1:B=(k:Int):=by injection n
  subst e1;exact⟨_,rfl,_,rfl,F,r,st,Mu,k,y,rfl,z,ok,J,q⟩
end
noncomputable def nk:Vbptal.Call->List (Str×Int)
 | .edition _=>[]| .text _=>[("edition",3)]| .class_ _ _=>[("edition",3),("class",15)]| .concord _ _ _=>[("edition",3),("class",15),("edition",3)]
 | .through _ _ _ _=>[("edition",3),("edition",3),("edition",3),("class",15)]| .holder _ _ _=>[("edition",3),("class",15),("edition",3)]| .paper _ _ _=>[("day",999)]
 | .mark _ _ _=>[("paper",11),("edition",3),("class",15)]| .remark _ _ _ _=>[("paper",11),("mark",2),("edition",3),("class",15)]| .unmark _ _=>[("paper",11),("mark",2)]
 | .told _=>[("paper",11)]| .ask _ _ _=>[("place",3),("edition",3)]| .asks _=>[("place",3)]| .find _=>[("place",3)]| .likely _ _=>[("place",3),("paper",11)]| .ranked _=>[("place",3)]
 | .same _ _=>[("place",3),("place",3)]| .news _=>[("place",3)]| .counts=>[]
noncomputable def rk:Vbptal.Call->List (Str×Int×Int)
 | .edition _=>[("edition text",400,255)]| .paper _ _ _=>[("words",6,5),("classes",3,15)]| .ask _ _ _=>[("query text",60,255)]|_=>[]
noncomputable def CN(hi v:Int):Bool:=decide (0<=v) && decide (v<=hi)
def Ks(kd:Str)(lo hi:Int)(ns:List Int):Bool:=(decide ((ns.length:Int)<=lo) && ns.all (CN hi)) && (!decide (kd="words")|| Vbptal.upward ns)
def lV(d:Vbptal.Call):Bool:=((nk d).zip (nums d)).all λx=>CN x.1.2 x.2
def kR(d:Vbptal.Call):Bool:=((rk d).zip (Bi d)).all λx=>Ks x.1.1 x.1.2.1 x.1.2.2 x.2
theorem lP(d:Vbptal.Call):(nk d).length=(nums d).length:=by cases d<;> rfl
theorem gC(d:Vbptal.Call):(rk d).length=(Bi d).length:=by cases d<;> rfl
theorem l7(h1:w.all (CN 5)=true)(h2:Vbptal.upward w=true):w.length<=6:=by
 obtain⟨u,rfl,z⟩:=O5 (k:=5) (t:=w) (by rw[<-h1];rfl);have q:=Ld h2 λx j=>by obtain⟨n,_,rfl⟩:=x5.mp j;lia
 rw[JB]at q;rw[A9];exact Vb (k:=0) (n:=6) q λx j=>⟨xi _,by have:=z x j;lia⟩
theorem oZ(w:List Int):Ks "words" 6 5 w=(w.all (CN 5) && Vbptal.upward w):=by
 unfold Ks;rw[show decide (("words":Str)="words")=true from xR rfl,Bool.not_true,yo];cases h1:w.all (CN 5)with
 |false=>simp
 |true=>
  cases h2:Vbptal.upward w with
  |false=>simp
  |true=>have:=l7 h1 h2;rw[xR Om];rfl
theorem Yy{kd:Str}(j:kd≠"words")(lo hi:Nat)(w:List Int):Ks kd lo hi w=(decide (w.length<=lo) && w.all (CN hi)):=by
 unfold Ks;rw[xV j,Bool.not_false,Bool.true_or,x2]
 congr 1
 by_cases h:w.length<=lo
 .rw[xR h,xR Om]
 .rw[xV h,xV Om]
theorem dk(d:Vbptal.Call):Vbptal.inRange d=(lV d && kR d):=by
 cases d with
 |edition t=>show Vbptal.isText 400 t=(true && (Ks "edition text" 400 255 t && true));rw[show Ks "edition text" 400 255 t=_ from Yy Dk 400 255 t,yP,x2];rfl
 |paper x w m=>show(Vbptal.inside x 0 999 && ((w.all λx=>Vbptal.inside x 0 5) && (Vbptal.upward w && (decide (m.length<=3) && m.all λc=>Vbptal.inside c 0 15))))=((CN 999 x && true) && (Ks "words" 6 5 w && (Ks "classes" 3 15 m && true)));rw[oZ,show Ks "classes" 3 15 m=_ from Yy Dk 3 15 m,x2,x2,Bool.and_assoc];rfl
 |ask k e t=>show(Vbptal.isPlace k && (Vbptal.inside e 0 3 && Vbptal.isText 60 t))=((CN 3 k && (CN 3 e && true)) && (Ks "query text" 60 255 t && true));rw[show Ks "query text" 60 255 t=_ from Yy Dk 60 255 t,x2,x2,Bool.and_assoc];rfl
 |text e=>show Vbptal.inside e 0 3=((CN 3 e && true) && true);rw[x2,x2];rfl
 |class_ e c=>show(Vbptal.inside e 0 3 && Vbptal.inside c 0 15)=((CN 3 e && (CN 15 c && true)) && true);rw[x2,x2];rfl
 |concord e c f=>show(Vbptal.inside e 0 3 && (Vbptal.inside c 0 15 && Vbptal.inside f 0 3))=((CN 3 e && (CN 15 c && (CN 3 f && true))) && true);rw[x2,x2];rfl
 |holder e c f=>show(Vbptal.inside e 0 3 && (Vbptal.inside c 0 15 && Vbptal.inside f 0 3))=((CN 3 e && (CN 15 c && (CN 3 f && true))) && true);rw[x2,x2];rfl
 |through e f g c=>show(Vbptal.inside e 0 3 && (Vbptal.inside f 0 3 && (Vbptal.inside g 0 3 && Vbptal.inside c 0 15)))=((CN 3 e && (CN 3 f && (CN 3 g && (CN 15 c && true)))) && true);rw[x2,x2];rfl
 |mark p e c=>show(Vbptal.inside p 0 11 && (Vbptal.inside e 0 3 && Vbptal.inside c 0 15))=((CN 11 p && (CN 3 e && (CN 15 c && true))) && true);rw[x2,x2];rfl
 |remark p i e c=>show(Vbptal.inside p 0 11 && (Vbptal.inside i 0 2 && (Vbptal.inside e 0 3 && Vbptal.inside c 0 15)))=((CN 11 p && (CN 2 i && (CN 3 e && (CN 15 c && true)))) && true);rw[x2,x2];rfl
 |unmark p i=>show(Vbptal.inside p 0 11 && Vbptal.inside i 0 2)=((CN 11 p && (CN 2 i && true)) && true);rw[x2,x2];rfl
 |told p=>show Vbptal.inside p 0 11=((CN 11 p && true) && true);rw[x2,x2];rfl
 |asks k=>show Vbptal.isPlace k=((CN 3 k && true) && true);rw[x2,x2];rfl
 |find k=>show Vbptal.isPlace k=((CN 3 k && true) && true);rw[x2,x2];rfl
 |ranked k=>show Vbptal.isPlace k=((CN 3 k && true) && true);rw[x2,x2];rfl
 |news k=>show Vbptal.isPlace k=((CN 3 k && true) && true);rw[x2,x2];rfl
 |likely k p=>show(Vbptal.isPlace k && Vbptal.inside p 0 11)=((CN 3 k && (CN 11 p && true)) && true);rw[x2,x2];rfl
 |same j k=>show(Vbptal.isPlace j && Vbptal.isPlace k)=((CN 3 j && (CN 3 k && true)) && true);rw[x2,x2];rfl
 |counts=>rfl
noncomputable abbrev Pu:List (Key×V):=[(Sum.inr "edition",.int (3)),(Sum.inr "class",.int (15)),(Sum.inr "paper",.int (11)),(Sum.inr "mark",.int (2)),(Sum.inr "place",.int (3)),(Sum.inr "day",.int (999)),(Sum.inr "edition text",.int (255)),(Sum.inr "query text",.int (255)),(Sum.inr "words",.int (5)),(Sum.inr "classes",.int (15))]
noncomputable abbrev dQ:List (Key×V):=[(Sum.inr "edition text",.int (400)),(Sum.inr "query text",.int (60)),(Sum.inr "words",.int (6)),(Sum.inr "classes",.int (3))]
theorem kO:([("edition",3),("class",15),("paper",11),("mark",2),("place",3),("day",999)]:List (Str×Int)).all (λx=>decide (C4 Pu (Sum.inr x.1)=some (.int x.2)))=true:=by decide+kernel
theorem q7(d:Vbptal.Call):(nk d).all (λx=>([("edition",3),("class",15),("paper",11),("mark",2),("place",3),("day",999)]:List (Str×Int)).contains x)=true:=by cases d<;> kernel_rfl
theorem mq(h:x∈nk d):C4 Pu (Sum.inr x.1)=some (.int x.2):=by have h1:=xk.mp (q7 d) x h;have h2:=xk.mp kO x (zX.mp h1);exact xI h2
theorem rM:([("edition text",400,255),("words",6,5),("classes",3,15),("query text",60,255)]:List (Str×Int×Int)).all (λx=>decide (C4 Pu (Sum.inr x.1)=some (.int x.2.2)) && decide (C4 dQ (Sum.inr x.1)=some (.int x.2.1)))=true:=by decide+kernel
theorem rF(d:Vbptal.Call):(rk d).all (λx=>([("edition text",400,255),("words",6,5),("classes",3,15),("query text",60,255)]:List (Str×Int×Int)).contains x)=true:=by cases d<;> kernel_rfl
theorem ll(h:x∈rk d):C4 Pu (Sum.inr x.1)=some (.int x.2.2)/\C4 dQ (Sum.inr x.1)=some (.int x.2.1):=by have h1:=xk.mp (rF d) x h;have h2:=xk.mp rM x (zX.mp h1);rw[x4]at h2;exact⟨xI h2.1,xI h2.2⟩
section
variable{P:Program}{w:World}{K:PySem.W.Frag}{mg:Str->Option Value}{base:Heap}
theorem XY(T:Txt w K mg)(d:Vbptal.Call):∃p kvs,KD w K T.CO kvs/\C4 kvs (Sum.inl (tag d:Int))=some (.ref p)/\∀H,Cd K H p ((nk d).map λx=>V.str x.1):=by
 cases d with
 |edition _=>exact⟨_,_,T.Ag,rfl,T.RN⟩
 |text _=>exact⟨_,_,T.Ag,rfl,T.RZ⟩
 |class_ _ _=>exact⟨_,_,T.Ag,rfl,T.Qy⟩
 |concord _ _ _=>exact⟨_,_,T.Ag,rfl,T.RB⟩
 |through _ _ _ _=>exact⟨_,_,T.Ag,rfl,T.RC⟩
 |holder _ _ _=>exact⟨_,_,T.Ag,rfl,T.Qr⟩
 |paper _ _ _=>exact⟨_,_,T.Ag,rfl,T.RV⟩
 |mark _ _ _=>exact⟨_,_,T.Ag,rfl,T.RE⟩
 |remark _ _ _ _=>exact⟨_,_,T.Ag,rfl,T.Q3⟩
 |unmark _ _=>exact⟨_,_,T.Ag,rfl,T.Qn⟩
 |told _=>exact⟨_,_,T.Ag,rfl,T.O8⟩
 |ask _ _ _=>exact⟨_,_,T.Ag,rfl,T.PY⟩
 |asks _=>exact⟨_,_,T.Ag,rfl,T.Ph⟩
 |find _=>exact⟨_,_,T.Ag,rfl,T.QL⟩
 |likely _ _=>exact⟨_,_,T.Ag,rfl,T.P2⟩
 |ranked _=>exact⟨_,_,T.Ag,rfl,T.PQ⟩
 |same _ _=>exact⟨_,_,T.Ag,rfl,T.Qi⟩
 |news _=>exact⟨_,_,T.Ag,rfl,T.PF⟩
 |counts=>exact⟨_,_,T.Ag,rfl,T.Qd⟩
theorem XW(T:Txt w K mg)(d:Vbptal.Call):∃kvs,KD w K T.Dd kvs/\((∃p,C4 kvs (Sum.inl (tag d:Int))=some (.ref p)/\∀H,Cd K H p ((rk d).map λx=>V.str x.1))\/(C4 kvs (Sum.inl (tag d:Int))=none/\rk d=[])):=by
 cases d with
 |edition _=>exact⟨_,T.GV,.inl ⟨_,rfl,T.Vf⟩⟩
 |paper _ _ _=>exact⟨_,T.GV,.inl ⟨_,rfl,T.WC⟩⟩
 |ask _ _ _=>exact⟨_,T.GV,.inl ⟨_,rfl,T.Vd⟩⟩
 |_=>exact⟨_,T.GV,.inr ⟨rfl,rfl⟩⟩
theorem gS{d:Vbptal.Call}{kvs:List (Key×V)}(h:(∃p,C4 kvs (Sum.inl (tag d:Int))=some (.ref p)/\∀H,Cd K H p ((rk d).map λx=>V.str x.1))\/(C4 kvs (Sum.inl (tag d:Int))=none/\rk d=[]))(p:Addr):
  ∃q,(C4 kvs (Sum.inl (tag d:Int))).getD (.ref p)=.ref q/\∀H':Hp,H' p=some (.tup [])->Cd K H' q ((rk d).map λx=>V.str x.1):=by
 rcases h with⟨q,h1,h2⟩|⟨h1,h2⟩
 .exact⟨q,by rw[h1];rfl,λH' _=>h2 H'⟩
 .exact⟨p,by rw[h1];rfl,λH' s=>by rw[h2];exact Cd.of s⟩
inductive TJ(K:PySem.W.Frag)(vs:List V)(H:Hp)(Q:VK)(z3_:XK):Prop
 |mk (kd:Str) (a:Addr) (ns:List Int) (lo hi:Int) (_:vs=[.str kd,.ref a]) (_:Ah K H a (ns.map V.int)) (_:C4 Pu (Sum.inr kd)=some (.int hi)) (_:C4 dQ (Sum.inr kd)=some (.int lo)) (_:ns.length<=1000000) (_:Q (.bl (Ks kd lo hi ns)) H)
theorem So(T:Txt w K mg):FB P w mg base T.LP 2 (TJ K):=by
 refine Ce T.LP Sx λI A j s H vs Q E B h=>?_;obtain⟨kd,a,ns,lo,hi,rfl,n,J,L,M,q⟩:=h;refine⟨_,(AD (Ab (PW.pt (Ds (CA HV (IM T.Be (pv 1)) (Ff (CF (v:=.ref T.RK) rfl T.jE rfl) (pv 0) (λ_ _=>rfl))) (DC (Ba (A7 (CI B (Pg T) T.SX (AA (pv 1) (AA (Ff (CF (v:=.ref T.Jk) rfl T.Ul rfl) (pv 0) (λ_ _=>rfl)) AE)))))))) (AF (AK DN)) AQ) (AF (AK (uR (Eh IA (pv 0) rB (G5 _)) (de (CI B (VZ T) T.XS (AA (pv 1) AE))))))),?_⟩;dsimp only[A0,Cx.Ck];unfold Ks at q;refine AU (!(decide ((ns.length:Int)<=lo) && ns.all (CN hi))) (λQ q=>⟨_,rfl,a,_,rfl,.inl n,_,rfl,_,_,Sum.inr kd,_,rfl,T.d5,rfl,L,_,_,rfl,rfl,_,rfl,?_⟩) (λh=>?_) (λh=>?_)
 .rw[xH];have e1:decide (((ns.length:Nat):Int) > lo)= !decide ((ns.length:Int)<=lo):=by
   by_cases z:(ns.length:Int)<=lo
   .rw[xR z,xV Om];rfl
   .rw[xV z,xR Om];rfl
  show if decide (((ns.length:Nat):Int) > lo)=true then _ else _
  rw[e1];cases z:decide ((ns.length:Int)<=lo)with
  |false=>rw[z]at q;exact EG q
  |true=>rw[z,yP]at q;exact ED ⟨_,rfl,_,rfl,_,_,Sum.inr kd,_,rfl,T.SH,rfl,J,a,ns,hi,rfl,n,_,rfl,q⟩
 .have h1:(decide ((ns.length:Int)<=lo) && ns.all (CN hi))=false:=by rw[AAv]at h;exact h
  rw[h1]at q;exact q
 .have h1:(decide ((ns.length:Int)<=lo) && ns.all (CN hi))=true:=by rw[AAl]at h;exact h
  rw[h1,yP]at q;refine⟨_,rfl,rfl,_,rfl,?_⟩;have N:decide (V.str kd=V.str "words")=decide (kd="words"):=by
   by_cases z:kd="words"
   .rw[xR z,xR (by rw[z])]
   .rw[xV z,xV (λy=>z (V.str.inj y))]
  show if(!decide (V.str kd=V.str "words"))=true then _ else _
  rw[N];cases z:decide (kd="words")with
  |false=>rw[z]at q;exact EG q
  |true=>rw[z]at q;exact ED ⟨_,rfl,a,ns,rfl,n,M,q⟩
end
theorem Xr{K:PySem.W.Frag}{a b:Addr}{xs ys:List V}{g:TG}{tb:TS}{D:Ends}{σ:L2.St}{H:Hp}(z:xs.length=ys.length)(Pv:Nat->L2.St->Hp->Prop)(L:Pv 0 σ H)(M:∀i σ H,i<=xs.length->Pv i σ H->Cd K H a xs/\Ah K H b ys)
  (O:∀i x y σ H T,xs[i]?=some x->ys[i]?=some y->Pv i σ H->H T=none->g (.ref T) σ (upd H T (.tup [x,y])) λj H2=>tb {D with nx:=Pv (i+1),ct:=Pv (i+1),bk:=D.nx} j H2) (hd:∀σ H,Pv xs.length σ H->D.nx σ H):
  ∃W:Nat->Nat->L2.St->Hp->Prop,(∃m,W 0 m σ H)/\∀i m σ H,W i m σ H->
   ((lD K a b).stop i H/\D.nx σ H)\/((lD K a b).go i H/\∃N:L2.St->Hp->Prop,(∀n H',N n H'->∃J,J<m/\W (i+1) J n H')/\∀x H',(lD K a b).jz i H x H'->g x σ H' λj H2=>tb {D with nx:=N,ct:=N,bk:=D.nx} j H2):=by
 refine⟨λi m σ H=>m=xs.length - i/\i<=xs.length/\Pv i σ H,⟨xs.length,by simp,xi _,L⟩,?_⟩;rintro i m σ H ⟨rfl,hi,p⟩;obtain⟨B,I⟩:=M i σ H hi p;by_cases q:i<xs.length
 .refine .inr ⟨⟨xs,ys,xs[i],ys[i]'Om,B,I,by simp[q],by simp[z▸q]⟩,Pv (i+1),λn H' U=>⟨xs.length - (i+1),Om,rfl,q,U⟩,λx H' y=>?_⟩;obtain⟨T,Y,y',e1,e2,e3,z1,z2⟩:=y;subst e1 e3;exact O i Y y' σ _ T (z1 xs B) (z2 ys I) p e2
 .have e:i=xs.length:=by lia
  subst e;exact .inl ⟨⟨xs,ys,B,I,.inl (xZ _)⟩,hd σ H p⟩
theorem dF{j:Type}{l:List j}{p:j->Bool}{i:Nat}{x:j}(h:l[i]?=some x)(n:(l.take i).all p=true)(q:p x=true):(l.take (i+1)).all p=true:=by rw[take_succ h,AAJ,n];simp[q]
theorem kx{j:Type}{l:List j}{p:j->Bool}{i:Nat}{x:j}(h:l[i]?=some x)(n:p x=false):l.all p=false:=by rw[List.all_eq_false];exact⟨x,xO h,by rw[n];decide⟩
theorem ma{j n:Type}{l:List j}{m:List n}{i:Nat}{x:j}{y:n}(h1:l[i]?=some x)(h2:m[i]?=some y):(l.zip m)[i]?=some (x,y):=by rw[List.getElem?_zip_eq_some];exact⟨h1,h2⟩
section
variable{P:Program}{w:World}{K:PySem.W.Frag}{mg:Str->Option Value}{base:Heap}
inductive bX(vs:List V)(H:Hp)(Q:VK)(z3_:XK):Prop
 |mk (d:Vbptal.Call) (ln lr:Addr) (_:vs=[vn (tag d),.ref ln,.ref lr]) (_:LZ H ln (nums d)) (_:LC H lr (Bi d)) (_:small d) (_:∀H',AN H H'->Q (.bl (Vbptal.inRange d)) H')
abbrev vm(d:Vbptal.Call)(j n:Addr)(H:Hp):Nat->L2.St->Hp->Prop:=λi σ H'=>(∃v1 q z:Option V,σ=[some (vn (tag d)),some (.ref j),some (.ref n),v1,q,z])/\AN H H'/\(((nk d).zip (nums d)).take i).all (λx=>CN x.1.2 x.2)=true
abbrev vU(d:Vbptal.Call)(j n:Addr)(H2:Hp):Nat->L2.St->Hp->Prop:=λi σ H'=>(∃v1 q z:Option V,σ=[some (vn (tag d)),some (.ref j),some (.ref n),v1,q,z])/\AN H2 H'/\(((rk d).zip (Bi d)).take i).all (λx=>Ks x.1.1 x.1.2.1 x.1.2.2 x.2)=true
theorem dE(T:Txt w K mg):FB P w mg base T.VM 3 bX:=by
 refine Ce T.VM Fl λas A ah s H vs Q E hr h=>?_;obtain⟨d,ln,lr,rfl,hn,hw,ai,q⟩:=h;obtain⟨ra,gr,U⟩:=id hw;refine⟨_,(AD (Bc xo rfl (bZ rfl T.p0 (AA (Ff (CF (v:=.ref T.CO) rfl T.MN rfl) (pv 0) (λ_ _=>rfl)) (AA (pv 1) AE))) (DT rfl (Ak (Dz 3 Fl.nd) (Ak (Dz 4 Fl.nd) CY))) (AF (Ab (PW.pt (Ds (CA Nz (pv 4) AL) (DC (CA HV (pv 4) (Ff (CF (v:=.ref T.Jk) rfl T.Ul rfl) (pv 3) (λ_ _=>rfl)))))) (AF (AK DN)) AQ))) (AD (Bc xo rfl (bZ rfl T.p0 (AA (XD (CF (v:=.ref T.Dd) rfl T.Sd rfl) (pv 0) (FI AE) ⟨rfl,rfl,rfl,rfl⟩) (AA (pv 2) AE))) (DT rfl (Ak (Dz 3 Fl.nd) (Ak (Dz 5 Fl.nd) CY))) (AF (Ab (Ba (A7 (CI hr (So T) T.UI (AA (pv 3) (AA (pv 5) AE))))) (AF (AK DN)) AQ))) (AF (AK DN)))),?_⟩;dsimp only[A0,Cx.Ck];rw[dk]at q;obtain⟨pn,kvs,aj,Y,aa⟩:=XY T d;have ak:=lP d;have am:=gC d;refine⟨_,rfl,T.CO,kvs,Sum.inl (tag d:Int),_,rfl,aj,rfl,Y,_,rfl,pn,ln,_,_,rfl,aa H,Ah.of hn,Xr (K:=K) (a:=pn) (b:=ln) (xs:=(nk d).map λx=>V.str x.1) (ys:=(nums d).map V.int) (by rw[xH,xH,ak])
  (vm d ln lr H)
  ⟨⟨_,_,_,rfl⟩,AN.refl _,rfl⟩ (λi σ H' _ z=>⟨aa H',Ah.of (z.2.1 _ _ hn)⟩) ?_ ?_⟩
 .rintro i x y σ H1 T0 L hy ⟨⟨v1,v2,v3,rfl⟩,s1,j⟩ nT;rw[xh]at L;obtain⟨v,hv,rfl⟩:=ints_get hy;cases B:(nk d)[i]? with
  |none=>rw[B]at L;cases L
  |some n=>
   rw[B]at L;cases L;have hz:=ma B hv;have hg:=mq (xO B);refine⟨T0,_,rfl,Cd.of AB,rfl,_,_,rfl,_,_,rfl,rfl,?_⟩;have s2:=s1.trans (AI (o:=.tup [.str n.1,.int v]) nT);refine Ca (!CN n.2 v) (λQ q=>⟨_,rfl,_,_,rfl,rfl,_,rfl,?_⟩) (λh=>?_) (λh=>?_)
   .unfold CN at q;by_cases z:v<0
    .rw[xV (show¬0<=v by lia)]at q;show if decide (v<0)=true then _ else _
     rw[xR z];exact EG q
    .rw[xR (show 0<=v by lia),yP]at q;show if decide (v<0)=true then _ else _
     rw[xV z];refine ED ⟨_,rfl,_,rfl,_,_,Sum.inr n.1,_,rfl,T.SH,rfl,hg,_,_,rfl,rfl,_,rfl,?_⟩;have e1:decide (v > n.2)= !decide (v<=n.2):=by
      by_cases z2:v<=n.2
      .rw[xR z2,xV Om];rfl
      .rw[xV z2,xR Om];rfl
     show Q (decide (v > n.2)) _;rw[e1];exact q
   .have M:CN n.2 v=false:=by rw[AAv]at h;exact h
    have:lV d=false:=kx hz M;rw[this]at q;exact q _ s2
   .have M:CN n.2 v=true:=by rw[AAl]at h;exact h
    exact⟨⟨_,_,_,rfl⟩,s2,dF hz j M⟩
 .rintro σ H1 ⟨⟨v1,v2,v3,rfl⟩,s1,j⟩;have hN:lV d=true:=by
   rw[xH]at j;have e:((nk d).zip (nums d)).take (nk d).length=(nk d).zip (nums d):=yT (by rw[List.length_zip];lia);rw[e]at j;exact j
  rw[hN,yP]at q;obtain⟨ab,ae,N⟩:=XW T d;refine⟨T.Dd,ab,rfl,ae,_,rfl,xi _,λpe an=>?_⟩;obtain⟨qa,ao,af⟩:=gS (K:=K) N pe;have O:(upd H1 pe (.tup [])) pe=some (.tup []):=AB;have s2:AN H1 (upd H1 pe (.tup [])):=AI an;have I:=s1.trans s2;refine⟨Sum.inl (tag d:Int),rfl,_,rfl,qa,lr,_,_,by rw[ao],af _ O,Ah.of (I _ _ gr),?_⟩;generalize upd H1 pe (.tup [])=H2 at s2 I O⊢;refine Xr (K:=K) (a:=qa) (b:=lr) (xs:=(rk d).map λx=>V.str x.1) (ys:=ra.map V.ref) (by rw[xH,xH,am,AR U])
   (vU d ln lr H2)
   ⟨⟨_,_,_,rfl⟩,AN.refl _,rfl⟩ (λi σ H' _ z=>⟨af H' (z.2.1 _ _ O),Ah.of (z.2.1 _ _ (I _ _ gr))⟩) ?_ ?_
  .rintro i x y σ H3 T0 L hy ⟨⟨v1,v2,v3,rfl⟩,s3,j⟩ nT;rw[xh]at L;obtain⟨ya,ap,rfl⟩:=BK hy;obtain⟨J,ag,aq⟩:=Av i ya U ap;cases B:(rk d)[i]? with
   |none=>rw[B]at L;cases L
   |some n=>
    rw[B]at L;cases L;have hz:=ma B ag;have hg:=ll (xO B);refine⟨T0,_,rfl,Cd.of AB,rfl,_,_,rfl,_,_,rfl,rfl,?_⟩;have s4:=s3.trans (AI (o:=.tup [.str n.1,.ref ya]) nT);have ar:J.length<=400:=ai J (xO ag);refine Ca (!Ks n.1 n.2.1 n.2.2 J) (λQ q=>⟨_,rfl,_,rfl,n.1,ya,J,n.2.1,n.2.2,rfl,Ah.of (s4 _ _ (I _ _ aq)),hg.1,hg.2,Om,_,rfl,q⟩) (λh=>?_) (λh=>?_)
    .have M:Ks n.1 n.2.1 n.2.2 J=false:=by rw[AAv]at h;exact h
     have:kR d=false:=kx hz M;rw[this]at q;exact q _ (I.trans s4)
    .have M:Ks n.1 n.2.1 n.2.2 J=true:=by rw[AAl]at h;exact h
     exact⟨⟨_,_,_,rfl⟩,s4,dF hz j M⟩
  .rintro σ H3 ⟨⟨v1,v2,v3,rfl⟩,s3,j⟩;have hB:kR d=true:=by
    rw[xH]at j;have e:((rk d).zip (Bi d)).take (rk d).length=(rk d).zip (Bi d):=yT (by rw[List.length_zip];lia);rw[e]at j;exact j
   rw[hB]at q;exact q H3 (I.trans s3)
end
theorem ZZ:∀a b:List (List (List Int)),PyFlat.put (a++b)=PyFlat.put a++PyFlat.put b
 |[],b=>rfl
 |c::a,b=>by show PyFlat.put1 c++PyFlat.put (a++b)=(PyFlat.put1 c++PyFlat.put a)++PyFlat.put b;rw[ZZ a b,yB]
theorem MF:∀a b:List (List Int),PyFlat.putRows (a++b)=PyFlat.putRows a++PyFlat.putRows b
 |[],b=>rfl
 |c::a,b=>by show PyFlat.putRow c++PyFlat.putRows (a++b)=(PyFlat.putRow c++PyFlat.putRows a)++PyFlat.putRows b;rw[MF a b,yB]
def flat(ds:List Vbptal.Call):List Int:=PyFlat.put (ds.map enc)
theorem d9(h:ds[j]?=some d):flat ds=flat (ds.take j)++((tag d:Int)::(nums d++(PyFlat.putRows (Bi d)++flat (ds.drop (j+1))))):=by
 unfold flat
 conv=>lhs;rw[EO h]
 rw[xX,ZZ,yE]
 congr 1
 show PyFlat.put1 (enc d)++_=_;show(((tag d:Int)::nums d)++PyFlat.putRows (Bi d))++_=_;simp
theorem il{ds:List Vbptal.Call}{j:Nat}{d:Vbptal.Call}(h:ds[j]?=some d):(flat (ds.take (j+1))).length=(flat (ds.take j)).length+1+(nums d).length+(PyFlat.putRows (Bi d)).length:=by rw[take_succ h];unfold flat;rw[xX,ZZ];show(PyFlat.put _++(PyFlat.put1 (enc d)++[])).length=_;show(PyFlat.put _++((((tag d:Int)::nums d)++PyFlat.putRows (Bi d))++[])).length=_;simp;lia
theorem fT(h:j[i]?=some r):PyFlat.putRows j=PyFlat.putRows (j.take i)++((r.length:Int)::(r++PyFlat.putRows (j.drop (i+1)))):=by
 conv=>lhs;rw[EO h]
 rw[MF]
 congr 1
theorem iW{j:List (List Int)}{i:Nat}{r:List Int}(h:j[i]?=some r):(PyFlat.putRows (j.take (i+1))).length=(PyFlat.putRows (j.take i)).length+1+r.length:=by rw[take_succ h,MF];show(_++(((r.length:Int)::r)++[])).length=_;simp;lia
theorem lH(A B C:List Int):GP ((A++(B++C)).map V.int) (some ((A.length:Nat):Int)) (some ((A.length+B.length:Nat):Int))=B.map V.int:=by rw[Z6 _ _ _ (by simp),<-ABg,<-AAY,List.drop_left,show A.length+B.length - A.length=B.length by lia,List.take_left]
theorem kh(A:List Int)(x:Int)(C:List Int):((A++x::C).map V.int)[A.length]?=some (V.int x):=by rw[xh];simp
inductive U1(H:Hp)(t:Addr)(d:Vbptal.Call):Prop
 |mk (ln lr) (_:H t=some (.tup [vn (tag d),.ref ln,.ref lr])) (_:LZ H ln (nums d)) (_:LC H lr (Bi d))
theorem U1.mono(h:U1 H t d)(s:AN H H'):U1 H' t d:=by obtain⟨j,n,h1,h2,q⟩:=h;exact⟨j,n,s _ _ h1,h2.mono s,q.mono s⟩
inductive P1(H:Hp)(a:Addr)(ds:List Vbptal.Call):Prop
 |mk (as:List Addr) (_:H a=some (.lst (as.map V.ref))) (_:Paired (U1 H) as ds)
theorem P1.mono(h:P1 H t d)(s:AN H H'):P1 H' t d:=by obtain⟨as,h1,h2⟩:=h;exact⟨as,s _ _ h1,Paired.BO (λ_ _ z=>z.mono s) h2⟩
theorem OO(h:fresh H H' b=some o):H b=none:=by
 cases z:H b with
 |none=>rfl
 |some u=>rw[Cj z]at h;cases h
section
variable{P:Program}{w:World}{K:PySem.W.Frag}{mg:Str->Option Value}{base:Heap}
inductive Tn(K:PySem.W.Frag)(vs:List V)(H:Hp)(Q:VK)(z3_:XK):Prop
 |mk (a:Addr) (ds:List Vbptal.Call) (_:vs=[.ref a]) (_:(∀H',AN H H'->Ah K H' a ((flat ds).map V.int))) (_:ds.length<=400) (_:∀H' p,AN H H'->H p=none->P1 (fresh H H') p ds->Q (.ref p) H')
inductive xD(a D:Addr)(ds:List Vbptal.Call)(H:Hp)(n:Nat)(σ:L2.St)(H':Hp):Prop
 |mk (j:Nat) (v3 v4 v5 v6 v7 v8:Option V) (as:List Addr) (_:σ=[some (.ref a),some (.ref D),some (vn (flat (ds.take j)).length),v3,v4,v5,v6,v7,v8]) (_:n=ds.length - j) (_:j<=ds.length) (_:AN H H') (_:H' D=some (.lst (as.map V.ref))) (_:Paired (U1 (CE.Bl [D] (fresh H H'))) as (ds.take j))
inductive wu(a D p1 R:Addr)(ds:List Vbptal.Call)(j:Nat)(d:Vbptal.Call)(H1 H4:Hp)(i:Nat)(σ:L2.St)(H':Hp):Prop
 |mk (v7 v8:Option V) (_:σ=[some (.ref a),some (.ref D),some (vn (flat (ds.take j)).length),some (vn (tag d)),some (vn ((flat (ds.take j)).length+1+(nums d).length+(PyFlat.putRows ((Bi d).take i)).length)),some (.ref p1),some (.ref R),v7,v8]) (_:(∀b o,b≠R->H4 b=some o->H' b=some o)) (bs:List Addr) (_:H' R=some (.lst (bs.map V.ref))) (_:Paired (LZ (CE.Bl [R] (fresh H1 H'))) bs ((Bi d).take i))
theorem T6(T:Txt w K mg):FB P w mg base T.N0 1 (Tn K):=by
 refine Ce T.N0 BW λa1 A aK s H vs Q E hr h=>?_;obtain⟨a,ds,rfl,U,a0,q⟩:=h;refine⟨_,(AD (B6 1 BW.nd (AZ AE)) (AD (B6 2 BW.nd AL) (AD (MK xo (CA Nz (pv 2) (IM T.Be (pv 0))) (AD (B6 3 BW.nd (Cv (pv 0) (pv 2))) (AD (B6 4 BW.nd (Ap EK (Ap EK (pv 2) AL) (IM T.Be (Ff (CF (v:=.ref T.CO) rfl T.MN rfl) (pv 3) (λ_ _=>rfl))))) (AD (B6 5 BW.nd (D0 FO (pv 0) (Dn (Ap EK (pv 2) AL)) (Dn (pv 4)))) (AD (B6 6 BW.nd (AZ AE)) (AD (Bc xo rfl (mx (XD (CF (v:=.ref T.Dd) rfl T.Sd rfl) (pv 3) (FI AE) ⟨rfl,rfl,rfl,rfl⟩)) (Dz 7 BW.nd) (AD (B6 8 BW.nd (Ap EK (pv 4) AL)) (AD (B6 4 BW.nd (Ap EK (pv 8) (Cv (pv 0) (pv 4)))) (AF (A3 (Cn xa xw xx BD (pv 6) (AA (D0 FO (pv 0) (Dn (pv 8)) (Dn (pv 4))) AE))))))) (AD (A3 (Cn xa xw xx BD (pv 1) (AA (FI (AA (pv 3) (AA (pv 5) (AA (pv 6) AE)))) AE))) (AF (B6 2 BW.nd (pv 4)))))))))) (AF (AK (pv 1)))))),?_⟩;dsimp only[A0,Cx.Ck];refine AS ⟨xi _,λD nD=>?_⟩;refine AS ?_;refine⟨xD a D ds H,
  ⟨_,0,_,_,_,_,_,_,[],rfl,rfl,xi _,AI nD,AB,.nil⟩,?_⟩
 rintro n σ H1 ⟨j,v3,v4,v5,v6,v7,v8,as,rfl,rfl,hj,s1,hD,ab⟩;refine⟨_,rfl,_,rfl,a,_,rfl,.inl (U H1 s1),_,_,rfl,rfl,_,rfl,?_⟩;rw[xH];show if decide ((((flat (ds.take j)).length:Nat):Int)< (((flat ds).length:Nat):Int))=true then _ else _
 rw[IS];by_cases ay:j<ds.length
 .have hd:ds[j]?=some ds[j]:=xW ay;generalize ds[j]=d at hd;have ae:=d9 hd;have ao:=il hd;rw[xR (by rw[ae];simp)];refine EG ⟨_,λ_ _ h=>h,?_⟩;obtain⟨pn,kvs,aL,az,aM⟩:=XY T d;have aN:=lP d;refine AS ⟨_,rfl,_,rfl,a,_,_,_,rfl,rfl,U H1 s1,at_of (j:=(flat (ds.take j)).length) rfl (by rw[ae];exact kh _ _ _),?_⟩;refine AS ⟨_,rfl,_,_,rfl,rfl,_,rfl,T.CO,kvs,Sum.inl (tag d:Int),_,rfl,aL,rfl,az,pn,_,rfl,.inr (aM H1),_,_,rfl,rfl,?_⟩;dsimp only;rw[xH,aN,show V.int (((flat (ds.take j)).length:Int)+1+((nums d).length:Nat))=vn ((flat (ds.take j)).length+1+(nums d).length) by show V.int _=V.int _;congr 1];refine AS ⟨_,rfl,_,rfl,_,_,rfl,rfl,_,rfl,_,rfl,_,rfl,a,_,rfl,U H1 s1,λI n1=>?_⟩;have aA:GP ((flat ds).map V.int) (some (((flat (ds.take j)).length:Int)+1)) (some (((flat (ds.take j)).length+1+(nums d).length:Nat):Int))=(nums d).map V.int:=by
   have:=lH (flat (ds.take j)++[(tag d:Int)]) (nums d) (PyFlat.putRows (Bi d)++flat (ds.drop (j+1)));rw[xS,zW]at this;rw[ae];have e1:(flat (ds.take j)++[(tag d:Int)])++(nums d++(PyFlat.putRows (Bi d)++flat (ds.drop (j+1))))=flat (ds.take j)++((tag d:Int)::(nums d++(PyFlat.putRows (Bi d)++flat (ds.drop (j+1))))):=by simp
   rw[e1]at this;exact this
  rw[aA];have aB:AN H1 (upd H1 I (.lst ((nums d).map V.int))):=AI n1;refine AS ⟨xi _,λR nR=>?_⟩;have aO:=aB.trans (AI (o:=.lst []) nR);have af:H1 R=none:=aB.free nR;have aC:I≠R:=AH (H:=upd H1 I (.lst ((nums d).map V.int))) AB nR;obtain⟨aD,aE,ap⟩:=XW T d;refine⟨T.Dd,aD,rfl,aE,_,rfl,xi _,λpe ag=>?_⟩;obtain⟨qa,aP,am⟩:=gS (K:=K) ap pe;have M:=aO.trans (AI (o:=.tup []) ag);have aF:R≠pe:=AH (H:=upd (upd H1 I (.lst ((nums d).map V.int))) R (.lst [])) AB ag;have g1:LZ (upd (upd (upd H1 I (.lst ((nums d).map V.int))) R (.lst [])) pe (.tup [])) I (nums d):=by unfold LZ;exact AI ag _ _ (AI nR _ _ AB)
  have gR:(upd (upd (upd H1 I (.lst ((nums d).map V.int))) R (.lst [])) pe (.tup [])) R=some (.lst []):=AI ag _ _ AB;have aq:(upd (upd (upd H1 I (.lst ((nums d).map V.int))) R (.lst [])) pe (.tup [])) pe=some (.tup []):=AB;refine⟨Sum.inl (tag d:Int),rfl,qa,by rw[aP],⟨_,am _ aq⟩,?_⟩;generalize upd (upd (upd H1 I (.lst ((nums d).map V.int))) R (.lst [])) pe (.tup [])=H4 at M g1 gR aq⊢;have an:=gC d;have aQ:(Bi d).length<=2:=by cases d<;> exact xI rfl
  have aR:∀H',(∀b o,b≠R->H4 b=some o->H' b=some o)->AN H H':=λH' N b o z=>N b o (AH (s1 _ _ z) af) (M _ _ (s1 _ _ z));have DR:D≠R:=AH hD af;refine gu (K:=K) (a:=qa) (xs:=(rk d).map λx=>V.str x.1)
   (wu a D I R ds j d H1 H4)
   ⟨_,_,rfl,λ_ _ _ z=>z,[],gR,.nil⟩ (λi σ H' _⟨_,_,_,N,_,_,_⟩=>am _ (N _ _ (x8 aF) aq)) ?_ ?_
  .rintro i x σ J hx ⟨v7,v8,rfl,N,bs,O,Y⟩;have aS:i< (Bi d).length:=by
    have:=(xP.mp hx).1;rw[xH,an]at this;exact this
   have L:(Bi d)[i]?=some (Bi d)[i]:=xW aS;generalize(Bi d)[i]=B at L;have ah:=fT L;have ai:=iW L;have aj:=aR J N;have hL:flat ds=(flat (ds.take j)++((tag d:Int)::nums d)++PyFlat.putRows ((Bi d).take i))++((B.length:Int)::(B++(PyFlat.putRows ((Bi d).drop (i+1))++flat (ds.drop (j+1))))):=by rw[ae,ah];simp
   have ar:(flat (ds.take j)++((tag d:Int)::nums d)++PyFlat.putRows ((Bi d).take i)).length=(flat (ds.take j)).length+1+(nums d).length+(PyFlat.putRows ((Bi d).take i)).length:=by simp;lia
   generalize hE:(flat (ds.take j)).length+1+(nums d).length+(PyFlat.putRows ((Bi d).take i)).length=en at ar⊢;have aG:((flat ds).map V.int)[en]?=some (V.int (B.length:Int)):=by rw[hL,<-ar];exact kh _ _ _
   refine LV (AS ⟨_,rfl,_,_,rfl,rfl,?_⟩);refine AS ⟨_,rfl,_,rfl,_,rfl,a,_,_,_,rfl,rfl,U J aj,at_of (j:=en) rfl aG,_,_,rfl,rfl,?_⟩;refine⟨_,rfl,.inl ⟨rfl,_,Ah.of O⟩,_,rfl,_,rfl,_,rfl,_,rfl,_,rfl,a,_,rfl,U J aj,λp6 n6=>?_⟩;have au:GP ((flat ds).map V.int) (some ((en:Int)+1)) (some ((en:Int)+1+(B.length:Int)))=B.map V.int:=by have:=lH ((flat (ds.take j)++((tag d:Int)::nums d)++PyFlat.putRows ((Bi d).take i))++[(B.length:Int)]) B (PyFlat.putRows ((Bi d).drop (i+1))++flat (ds.drop (j+1)));rw[xS,zW,ar]at this;rw[hL];rw[show((flat (ds.take j)++((tag d:Int)::nums d)++PyFlat.putRows ((Bi d).take i))++[(B.length:Int)])++(B++(PyFlat.putRows ((Bi d).drop (i+1))++flat (ds.drop (j+1))))=(flat (ds.take j)++((tag d:Int)::nums d)++PyFlat.putRows ((Bi d).take i))++((B.length:Int)::(B++(PyFlat.putRows ((Bi d).drop (i+1))++flat (ds.drop (j+1))))) by simp]at this;exact this
   rw[au];have s6:AN J (upd J p6 (.lst (B.map V.int))):=AI n6;have aT:=s6 _ _ O;have av:p6≠R:=λz=>by rw[z,O]at n6;cases n6
   have aU:=AR Y;rw[xt]at aU;have aV:H1 p6=none:=by
    cases z:H1 p6 with
    |none=>rfl
    |some o=>rw[N p6 o av (M _ _ z)]at n6;cases n6
   refine⟨R,_,_,rfl,rfl,aT,?_,some x,some (vn (en+1)),?_,λb o hb z=>by rw[AG hb];exact s6 _ _ (N b o hb z),bs++[p6],?_,?_⟩
   .rw[xH];exact Az Om
   .rw[ai];have e5:(flat (ds.take j)).length+1+(nums d).length+((PyFlat.putRows ((Bi d).take i)).length+1+B.length)=en+1+B.length:=by lia
    rw[e5];rfl
   .rw[AB,xX];rfl
   .rw[take_succ L];have sf:AN (CE.Bl [R] (fresh H1 J)) (CE.Bl [R] (fresh H1 (upd (upd J p6 (.lst (B.map V.int))) R (.lst (bs.map V.ref++[.ref p6]))))):=λb o z=>by
     have aH:b∉[R]:=λy=>by rw[Fv y]at z;cases z
     have aI:b≠R:=by simpa using aH
     rw[As aH]at z⊢;rw[Ay (OO z),AG aI];exact s6 _ _ (Aw _ _ _ _ z)
    refine BR (Paired.BO (λ_ _ z=>LZ.mono z sf) Y) ?_;unfold LZ;rw[As (by simpa using av),Ay aV,AG av,AB]
  .rintro σ J ⟨v7,v8,rfl,N,bs,O,Y⟩;rw[xH,an,xm]at Y⊢;have aj:=aR J N;have ax:J D=some (.lst (as.map V.ref)):=N _ _ DR (M _ _ hD);have aW:=AR ab;rw[xt]at aW;refine⟨_,rfl,.inl ⟨rfl,_,Ah.of ax⟩,_,rfl,_,rfl,_,rfl,AW (by show 3<=1000;decide),λt nt=>?_⟩;have ak:AN J (upd J t (.tup [vn (tag d),.ref I,.ref R])):=AI nt;have tD:t≠D:=λz=>by rw[z,ax]at nt;cases nt
   have aX:H1 t=none:=by
    cases z:H1 t with
    |none=>rfl
    |some o=>rw[N t o (λy=>by rw[y,O]at nt;cases nt) (M _ _ z)]at nt;cases nt
   refine⟨D,_,_,rfl,rfl,ak _ _ ax,?_,?_⟩
   .rw[xH];exact Az Om
   have up:∀b o,H1 b=none->J b=some o->CE.Bl [D] (fresh H (upd (upd J t (.tup [vn (tag d),.ref I,.ref R])) D (.lst (as.map V.ref++[.ref t])))) b=some o:=λb o n z=>by
    have aa:b≠D:=λy=>by rw[y,hD]at n;cases n
    rw[As (by simpa using aa),Ay (s1.free n),AG aa];exact ak _ _ z
   have aY:LZ J I (nums d):=N _ _ aC g1;refine⟨_,rfl,ds.length - (j+1),Om,j+1,some (vn (tag d)),some (vn ((flat (ds.take j)).length+1+(nums d).length+(PyFlat.putRows (Bi d)).length)),some (.ref I),some (.ref R),v7,v8,as++[t],?_,rfl,ay,λb o z=>?_,?_,?_⟩
   .rw[ao];rfl
   .rw[AG (AH z nD)];exact ak _ _ (aj _ _ z)
   .rw[AB,xX];rfl
   .rw[take_succ hd];have sD:AN (CE.Bl [D] (fresh H H1)) (CE.Bl [D] (fresh H (upd (upd J t (.tup [vn (tag d),.ref I,.ref R])) D (.lst (as.map V.ref++[.ref t]))))):=λb o e=>by
     have aa:b∉[D]:=λy=>by rw[Fv y]at e;cases e
     have aJ:b≠D:=by simpa using aa
     rw[As aa]at e⊢;rw[Ay (OO e),AG aJ];exact ak _ _ (N _ _ (AH (Aw _ _ _ _ e) af) (M _ _ (Aw _ _ _ _ e)))
    have ht:CE.Bl [D] (fresh H (upd (upd J t (.tup [vn (tag d),.ref I,.ref R])) D (.lst (as.map V.ref++[.ref t])))) t=some (.tup [vn (tag d),.ref I,.ref R]):=by rw[As (by simpa using tD),Ay (s1.free aX),AG tD,AB]
    have aZ:Paired (LZ (CE.Bl [D] (fresh H (upd (upd J t (.tup [vn (tag d),.ref I,.ref R])) D (.lst (as.map V.ref++[.ref t])))))) bs (Bi d):=Paired.BO (λx y z=>by
     have z:CE.Bl [R] (fresh H1 J) x=some (.lst (y.map V.int)):=z;have z1:=Af _ _ _ _ z;exact up _ _ (OO z1) (Aw _ _ _ _ z1)) Y
    exact BR (Paired.BO (λx y z=>z.mono sD) ab) ⟨I,R,ht,up _ _ n1 aY,bs,up _ _ af O,aZ⟩
 .have ej:j=ds.length:=by lia
  subst ej;rw[xm,xV Om];rw[xm]at ab;exact ED ⟨_,rfl,q H1 D s1 nD ⟨as,by rw[Ay nD];exact hD,Paired.BO (λ_ _ z=>z.mono (Af _ _)) ab⟩⟩
end
theorem JR(j:1<=n)(h:∀x∈s.editions,(f x).2.length<=n):(Vbptal.onEdition s e f).2.length<=n:=by
 unfold Vbptal.onEdition Vbptal.editionAt;split
 .exact j
 .rename_i x q;exact h x (xO q)
theorem JQ(j:1<=n)(h:∀x y,x∈s.editions->x[c.toNat]?=some y->(f x y).2.length<=n):(Vbptal.onClass s e c f).2.length<=n:=by
 unfold Vbptal.onClass Vbptal.editionAt;split
 .exact j
 .rename_i x q;split
  .exact j
  .rename_i y z;exact h x y (xO q) z
theorem JJ(j:1<=n)(h:∀x∈s.papers,(f x).2.length<=n):(Vbptal.onPaper s e f).2.length<=n:=by
 unfold Vbptal.onPaper Vbptal.paperAt;split
 .exact j
 .rename_i x q;exact h x (xO q)
theorem FG(q:1<=n)(h:∀x,some x∈s.asked->(f x).2.length<=n):(Vbptal.onAsked s e f).2.length<=n:=by
 unfold Vbptal.onAsked Vbptal.askedAt;split
 .exact q
 .rename_i x j;refine h x ?_;cases z:s.asked[e.toNat]? with
  |none=>rw[z]at j;cases j
  |some y=>rw[z]at j;have:y=some x:=j;rw[<-this];exact xO z
theorem UT(c:Nat):∀{l:List (List Nat)}{m:Nat},(∀x∈l,x.length<=m)->(Vbptal.joined c l).length<=l.length* (m+1)
 |[],m,_=>by simp[Vbptal.joined]
 |[a],m,h=>by have:=h a (by simp);simp[Vbptal.joined];lia
 |a::b::l,m,h=>by have h1:=h a (by simp);have h2:=UT c (l:=b::l) (m:=m) λx j=>h x (xY _ j);have e:Vbptal.joined c (a::b::l)=a++(c::Vbptal.joined c (b::l)):=Hi c a (by simp);rw[e,xS,xg,xg (as:=b::l),Nat.succ_mul];lia
theorem pK:∀t,t<12->(Vbptal.digits t).length<=2:=by decide+kernel
theorem jT(ok:Cc e):(Vbptal.shownEdition e).length<=960:=by
 have q:∀c∈e,(B7 e c).length<=60:=λc B=>by
  obtain⟨i,hi⟩:=y6 B;obtain⟨_,_,I,J⟩:=ok.cls i c hi;have U:=QI I;have Y:(Vbptal.shownMask c.mask).length<=36:=by
   unfold Vbptal.shownMask;have:=UT 44 (l:=(Vbptal.topics c.mask).map Vbptal.digits) (m:=2) λx z=>by obtain⟨t,L,rfl⟩:=x5.mp z;exact pK t (BI.mp L).1
   rw[xH]at this;have h7:=Ge c.mask;lia
  unfold B7;rw[xS,xS,xg,xS,zW];cases M:c.over with
  |none=>show _+(([]:List Nat).length+_)<=_;simp only[AB8];lia
  |some j=>have N:=J j M;have n:e[j]?=some (e[j]'(ABG N (xP.mp hi).1)):=xW _;have h9:=QI (ok.cls j _ n).2.2.1;show _+((60::((e[j]?).map λ(d:Vbptal.Class)=>d.code).getD []:List Nat).length+_)<=_;rw[n];simp only[Option.map_some,Option.getD_some,xg];lia
 rw[Fq];have:∀(l:List Vbptal.Class),(∀c∈l,(B7 e c).length<=60)->(l.flatMap (B7 e)).length<=l.length*60:=by
  intro l
  induction l with
  |nil=>intro _;simp
  |cons c l O=>intro h;have h1:=h c (xl ..);have h2:=O λx z=>h x (xY _ z);rw[zJ,xS,xg,Nat.succ_mul];lia
 have h2:=this e q;have:=ok.len;lia
theorem JU(p:Nat->Bool)(n:Nat):((List.range n).filter p).length<=n:=OT p n
theorem oR(ok:B8 s)(d:Vbptal.Call):(Vbptal.act s d).2.length<=1000:=by
 have O:=ok.Vk;have N:∀q n,(Vbptal.papersWith s q n).length<=12:=λq n=>xr (JU _ _) O;cases d with
 |edition t=>
  show(if Vbptal.EDITIONS<=s.editions.length then(s,[-3])else match Vbptal.editionOf (Vbptal.nats t)with|none=>(s,[-6])|some e=>({s with editions:=s.editions++[e]},[(s.editions.length:Int),(e.length:Int)])).2.length<=1000;split
  .simp
  .split<;> simp
 |text e=>exact JR Dc λx B=>by show(Vbptal.ints _).length<=_;rw[A9];have:=jT (ok.II x B);lia
 |class_ e c=>exact JQ Dc λx y B I=>by show(Vbptal.ints _).length<=_;rw[A9,xS];have:=QI ((ok.II x B).cls _ y I).2.2.1;show 3+_<=_;lia
 |concord e c f=>exact JQ Dc λx y B I=>JR Dc λz hz=>by show(Vbptal.counted _++Vbptal.ints _).length<=_;rw[xS,A6,A9];have h1:=Hj z y.mask;have h2:=(ok.II z hz).len;show _+1+1<=_;lia
 |through e f g c=>exact JQ Dc λx y B I=>JR Dc λz hz=>JR Dc λu U=>by show(Vbptal.counted (Vbptal.through z u y.mask)++Vbptal.counted ((Vbptal.through z u y.mask).filter _)).length<=_;rw[xS,A6,A6];have h1:(Vbptal.through z u y.mask).length<=u.length:=Hj _ _;have h2:=(ok.II u U).len;have Y:=yI (λi=> !(Vbptal.meeting u y.mask).contains i) (Vbptal.through z u y.mask);lia
 |holder e c f=>exact JQ Dc λx y B I=>JR Dc λz hz=>by show(match Vbptal.holder z y.mask with|none=>[0]|some i=>[1,(i:Int),if Vbptal.maskAt z i=y.mask then 1 else 0]).length<=_;split<;> simp
 |paper x w m=>
  show(if Vbptal.PAPERS<=s.papers.length then(s,[-3])else match s.editions.getLast? with|none=>(s,[-7])|some e=>if(m.all λc=>decide (c.toNat<e.length))=false then(s,[-7])else({s with papers:=s.papers++[⟨x.toNat,Vbptal.nats w,m.map λc=>Vbptal.maskAt e c.toNat⟩]},[(s.papers.length:Int)])).2.length<=1000;split
  .simp
  .split
   .simp
   .split<;> simp
 |mark p e c=>exact JJ Dc λx B=>JQ Dc λy z I hz=>by split<;> simp
 |remark p i e c=>
  exact JJ Dc λx B=>JQ Dc λy z I hz=>by
   split
   .simp
   .split<;> simp
 |unmark p i=>exact JJ Dc λx B=>by split<;> simp
 |told p=>exact JJ Dc λx B=>by show((x.day:Int)::Vbptal.counted x.words++Vbptal.counted x.marks).length<=_;have J:=ok.Fy x B;have h1:x.words.length<=6:=Vb J.up λw M=>⟨xi _,J.tP w M⟩;have h2:=J.Wh;rw[xS,xg,A6,A6];lia
 |ask k e t=>exact JR Dc λx B=>by split<;> simp
 |asks k=>exact FG Dc λx B=>by show((x.edition:Int)::Vbptal.ints x.text).length<=_;have:=(ok.KU x B).len;rw[xg,A9];lia
 |find k=>exact FG Dc λx B=>by show(Vbptal.counted _++Vbptal.counted _).length<=_;rw[xS,A6,A6];have h1:=N x.query 2;have h2:=N x.query 1;lia
 |likely k p=>exact FG Dc λx B=>JJ Dc λy I=>by show(2:Nat)<=1000;decide
 |ranked k=>
  exact FG Dc λx B=>by
   show(((Vbptal.rankedOf s x.query).length:Int)::Vbptal.ints ((Vbptal.rankedOf s x.query).flatMap jV)).length<=_;rw[xg,A9,lI];have h1:(Vbptal.rankedOf s x.query).length=(Co s x.query).length:=by rw[Ri];exact((Lu _ (ER ok x.query).1 (ER ok x.query).2).1).length_eq
   have h2:(Co s x.query).length<=12:=by rw[<-Lr];exact xr (OK s x.query _) O
   lia
 |same j k=>
  exact FG Dc λx B=>FG Dc λy I=>by
   show(match Vbptal.apart x.query y.query with|none=>[1]|some z=>0::(z.day:Int)::Vbptal.counted z.words++Vbptal.counted z.topics).length<=_;split
   .simp
   .rename_i z hz;have L:z∈Vbptal.trials x.query y.query:=zw hz;unfold Vbptal.trials at L;obtain⟨d,_,L⟩:=AAA.mp L;obtain⟨w,M,L⟩:=AAA.mp L;obtain⟨t,ht,rfl⟩:=x5.mp L;have h1:w.length<=6:=by
     unfold Vbptal.wordSets at M;obtain⟨m,_,rfl⟩:=x5.mp M;exact JU _ 6
    have h2:t.length<=12:=by rw[<-Q5 t ht];exact Ge _
    show(0::(d:Int)::Vbptal.counted w++Vbptal.counted t).length<=1000;rw[xS,xg,xg,A6,A6];lia
 |news k=>exact FG Dc λx B=>by show(Vbptal.counted ((Vbptal.papersWith s x.query 2).filter _)).length<=_;rw[A6];have h1:=N x.query 2;have Y:=yI (λi=> !x.told.contains i) (Vbptal.papersWith s x.query 2);lia
 |counts=>show(2:Nat)<=1000;decide
theorem Zm(s:Vbptal.State)(d:Vbptal.Call):Vbptal.step s (enc d)=if Vbptal.inRange d=false then(s,[-1])else Vbptal.act s d:=by unfold Vbptal.step;rw[fE]
theorem cP(ok:B8 s)(d:Vbptal.Call):(Vbptal.step s (enc d)).2.length<=1000:=by
 rw[Zm];split
 .simp
 .exact oR ok d
theorem QD:∀(ds:List Vbptal.Call)(j:Nat),j<=ds.length->(D6 Vbptal.start ((ds.take j).map enc)).length<=1001*j
 |ds,0,_=>by rw[ABT];exact xZ _
 |ds,j+1,h=>by have hd:ds[j]?=some ds[j]:=xW h;rw[take_succ hd,xX];show(D6 Vbptal.start ((ds.take j).map enc++[enc ds[j]])).length<=_;rw[NI,xS,xg];have h1:=QD ds j Om;have h2:=cP (UO ((ds.take j).map enc) B8.start) ds[j];lia
section
variable{P:Program}{w:World}{K:PySem.W.Frag}{mg:Str->Option Value}{base:Heap}
theorem Wr.later{T:Txt w K mg}{F:List Addr}{H H1:Hp}{r:Addr}{Mu:List Addr}{s s':Vbptal.State}{j:List Int}{Q:VK}(h:Wr T F H r Mu s' j Q)(R:Rep T F H r s Mu)(q:AN H H1):Wr T F H1 r Mu s' j Q:=λH' p n I J L hz=>by
 refine h H' p n ((AN.Bl q).trans I) (λb B=>?_) L hz;obtain⟨dx,le,lp,lq,lm,es,ps,qs,fs,R⟩:=R;rw[J b B];cases z:H b with
 |none=>exact absurd z (R.fr b B)
 |some o=>exact q _ _ z
inductive jk(T:Txt w K mg)(vs:List V)(H:Hp)(Q:VK)(z3_:XK):Prop
 |mk (F:List Addr) (r:Addr) (s:Vbptal.State) (Mu:List Addr) (d:Vbptal.Call) (ln lr:Addr) (_:vs=[.ref r,vn (tag d),.ref ln,.ref lr]) (_:Rep T F H r s Mu) (_:B8 s) (_:small d) (_:LZ (CE.Bl Mu H) ln (nums d)) (_:LC (CE.Bl Mu H) lr (Bi d)) (_:Wr T F H r Mu (Vbptal.step s (enc d)).1 (Vbptal.step s (enc d)).2 Q)
theorem iq(T:Txt w K mg):FB P w mg base T.bJ 9 (jk T):=by
 refine Ce T.bJ i4 λab A O s H vs Q E J h=>?_;obtain⟨F,r,st,Mu,d,L,M,rfl,U,ok,Y,hn,hw,q⟩:=h;rw[Zm]at q;refine⟨_,(AD (Ab (Ba (A7 (CI J (dE T) T.d7 (AA (pv 1) (AA (pv 2) (AA (pv 3) AE)))))) (AF (AK (AZ (AA (gi T.U2) AE)))) AQ) (AD (Ab (CA Kb (pv 1) (gi T.Mo)) (AF (AK (CI J (Jy T) T.Kq (AA (pv 0) (AA (pv 1) (AA (pv 2) (AA (pv 3) AE))))))) AQ) (AD (Ab (CA Kb (pv 1) (gi T.QW)) (AF (AK (CI J (MH T) T.Mp (AA (pv 0) (AA (pv 1) (AA (pv 2) (AA (pv 3) AE))))))) AQ) (AD (Ab (CA Kb (pv 1) (gi T.Ow)) (AF (AK (CI J (LS T) T.NB (AA (pv 0) (AA (pv 1) (AA (pv 2) (AA (pv 3) AE))))))) AQ) (AF (AK (CI J (Uj T) T.V0 (AA (pv 0) AE)))))))),?_⟩;refine Iq (!Vbptal.inRange d) (λQ q=>⟨_,rfl,_,rfl,_,rfl,d,L,M,rfl,hn.mono (Af _ _),hw.mono (Af _ _),Y,λH1 z=>⟨_,rfl,q H1 z⟩⟩) (λh H1 z=>?_) (λh H1 z=>?_)
 .have hb:Vbptal.inRange d=false:=by rw[AAv]at h;exact h
  rw[xQ hb]at q;exact⟨AW Dc,q.say U rfl z⟩
 have n:Vbptal.inRange d=true:=by rw[AAl]at h;exact h
 rw[xJ (by rw[n];decide)]at q;have N:=q.later U z;have j:=U.mono z;have B:=hn.mono (AN.Bl z);have I:=hw.mono (AN.Bl z);refine AU (decide (tag d<=5)) (λQ q=>⟨_,rfl,_,_,rfl,rfl,_,rfl,?_⟩) (λh5=>?_) (λh5=>?_)
 .rw[<-le_dec]at q;exact q
 .exact⟨_,rfl,_,rfl,_,rfl,_,rfl,F,r,st,Mu,d,L,M,rfl,j,ok,n,B,I,xI h5,N⟩
 have ae:=xc h5;refine AU (decide (tag d<=10)) (λQ q=>⟨_,rfl,_,_,rfl,rfl,_,rfl,?_⟩) (λh6=>?_) (λh6=>?_)
 .rw[<-le_dec]at q;exact q
 .exact⟨_,rfl,_,rfl,_,rfl,_,rfl,F,r,st,Mu,d,L,M,rfl,j,ok,n,B,I,Om,xI h6,N⟩
 have af:=xc h6;refine AU (decide (tag d<=17)) (λQ q=>⟨_,rfl,_,_,rfl,rfl,_,rfl,?_⟩) (λh7=>?_) (λh7=>?_)
 .rw[<-le_dec]at q;exact q
 .exact⟨_,rfl,_,rfl,_,rfl,_,rfl,F,r,st,Mu,d,L,M,rfl,j,ok,n,B,I,Om,xI h7,N⟩
 have aa:=xc h7;have hd:d=.counts:=by cases d<;> first|rfl|exact absurd (xI rfl) aa
 subst hd;exact⟨_,rfl,F,r,st,Mu,rfl,j,N.ro j⟩
inductive J0(K:PySem.W.Frag)(vs:List V)(H:Hp)(Q:VK)(z3_:XK):Prop
 |mk (a:Addr) (ds:List Vbptal.Call) (_:vs=[.ref a]) (_:(∀H',AN H H'->Ah K H' a ((flat ds).map V.int))) (_:ds.length<=400) (_:(∀d∈ds,small d)) (_:∀H' p,AN H H'->H p=none->LZ H' p (D6 Vbptal.start (ds.map enc))->Q (.ref p) H')
abbrev wD(T:Txt w K mg)(a x te:Addr)(ds:List Vbptal.Call)(Mu:List Addr)(n:Hp):Nat->L2.St->Hp->Prop:=λi σ H'=>(∃v1 q z v4:Option V,σ=[some (.ref a),some (.ref x),some (.ref te),v1,q,z,v4])/\∃j,Rep T [te] H' x (after Vbptal.start ((ds.take i).map enc)) j/\AN (CE.Bl (Mu++[te]) n) (CE.Bl j H')/\LZ H' te (D6 Vbptal.start ((ds.take i).map enc))
theorem fb(T:Txt w K mg):FB P w mg base T.Q4 10 (J0 K):=by
 refine Ce T.Q4 EN λaB A am s H vs Q E hr h=>?_;obtain⟨a,ds,rfl,an,Y,ao,q⟩:=h;refine⟨_,(AD (B6 1 EN.nd (nA (S8 T) λa b=>Tg T.fJ a (hr.mono Dc) rfl T.jy b .nil LK)) (AD (B6 2 EN.nd (AZ AE)) (AD (Bc xo rfl (BE (CI hr (T6 T) T.Vj (AA (pv 0) AE))) (DT rfl (Ak (Dz 3 EN.nd) (Ak (Dz 4 EN.nd) (Ak (Dz 5 EN.nd) CY)))) (AD (B6 6 EN.nd (CI hr (iq T) T.kX (AA (pv 1) (AA (pv 3) (AA (pv 4) (AA (pv 5) AE)))))) (AD (A3 (Cn xa xw xx BD (pv 2) (AA (IM T.Be (pv 6)) AE))) (AF (A3 (Cn xa yx yy FA (pv 2) (AA (pv 6) AE))))))) (AF (AK (pv 2)))))),?_⟩;dsimp only[A0,Cx.Ck];refine AS λx dy nx nd aC=>⟨x,dy,rfl,AB,λH1 Mu k1 hR=>⟨rfl,?_⟩⟩;have aa:∀b o,H b=some o->b∉Mu/\H1 b=some o:=λb o z=>k1 b o (AH z nx) (by rw[AG (AH z nx),AG (AH z nd)];exact z);have s1:AN H H1:=λb o z=>(aa b o z).2;refine AS ⟨xi _,λte M=>?_⟩;have ab:AN H1 (upd H1 te (.lst [])):=AI M;have N:=hR.frame M (.lst []);have g2:LZ (upd H1 te (.lst [])) te []:=AB;have L:H te=none:=s1.free M;have s2:=s1.trans ab;generalize upd H1 te (.lst [])=H2 at ab N g2 s2⊢;refine⟨_,rfl,a,ds,rfl,λH' s'=>an H' (s2.trans s'),Y,λH3 p3 s3 n3 ap=>?_⟩;have aq:=N.mono s3;have ae:P1 (CE.Bl (Mu++[te]) H3) p3 ds:=ap.mono (Wx λb hb=>N.there b hb);obtain⟨as,gp,pr⟩:=id ae;have af:∀b o,H b=some o->CE.Bl (Mu++[te]) H3 b=some o:=λb o z=>by
  have hb:b∉Mu++[te]:=λy=>by
   rcases xq.mp y with y|y
   .exact(aa b o z).1 y
   .rw[yD.mp y,L]at z;cases z
  rw[As hb];exact s3 _ _ (s2 _ _ z)
 refine⟨p3,rfl,⟨_,Ah.of (Af _ _ _ _ gp)⟩,Bh (K:=K) (a:=p3) (xs:=as.map V.ref)
  (wD T a x te ds Mu H3)
  ⟨⟨_,_,_,_,rfl⟩,Mu++[te],aq,AN.refl _,g2.mono s3⟩ (λi σ H' _ z=>by obtain⟨_,O,_,z1,_⟩:=z;exact Ah.of (Af _ _ _ _ (z1 _ _ gp))) ?_ ?_⟩
 .rintro i v σ H4 hv ⟨⟨v1,v2,v3,v4,rfl⟩,O,ag,j,J⟩;obtain⟨ya,ar,rfl⟩:=BK hv;obtain⟨d,hd,ln,lr,au,av,ax⟩:=Av i ya pr ar;have aD:=(xP.mp hd).1;have ah:=UO ((ds.take i).map enc) B8.start;have e1:(ds.take (i+1)).map enc=(ds.take i).map enc++[enc d]:=by rw[take_succ hd,xX];rfl
  have aE:=QD ds i Om;have ay:=cP ah d;refine⟨ya,_,rfl,Cd.of (Af _ _ _ _ (j _ _ au)),rfl,_,_,rfl,_,_,rfl,_,_,rfl,rfl,?_⟩;refine AS ⟨_,rfl,_,rfl,_,rfl,_,rfl,[te],x,_,O,d,ln,lr,rfl,ag,ah,ao d (xO hd),av.mono j,ax.mono j,λH5 p5 U az kF R5 n=>?_⟩;have ai:te∈U:=by obtain⟨dx,le,lp,lq,lm,es,ps,qs,fs,R⟩:=R5;rw[R.mu];simp
  have aA:p5∉U:=λy=>by unfold LZ at n;rw[Fv y]at n;cases n
  have aj:p5≠te:=λy=>aA (by rw[y];exact ai);have B:LZ H5 p5 _:=Af _ _ _ _ n;have ak:LZ H5 te (D6 Vbptal.start ((ds.take i).map enc)):=by unfold LZ;rw[kF te (by simp)];exact J
  generalize I:Vbptal.step (after Vbptal.start ((ds.take i).map enc)) (enc d)=sa at n B R5 ay;refine D3 ⟨_,rfl,.inl ⟨rfl,_,Ah.of ak⟩,_,rfl,p5,_,rfl,.inl (Ah.of B),te,_,_,rfl,rfl,ak,?_,?_⟩
  .rw[xH];exact Az Om
  refine⟨_,rfl,.inl ⟨rfl,_,Ah.of AB⟩,_,rfl,te,p5,_,_,rfl,rfl,AB,by rw[AG aj];exact B,?_,⟨_,_,_,_,rfl⟩,U,?_,?_,?_⟩
  .rw[xS,xH,xH];exact Mf (by show _+1+_<=_;lia)
  .rw[CD,e1,dW,I];exact R5.vj (by simp) _
  .rw[CD,Ga ai];exact j.trans az
  .unfold LZ;rw[AB,e1,NI,I];refine x3 (λz=>some (HO.lst z)) ?_;rw[xH,xX,yB];rfl
 .rintro σ H4 ⟨⟨v1,v2,v3,v4,rfl⟩,O,ag,j,J⟩;rw[xH,AR pr,xm]at J;exact⟨_,rfl,q H4 te (λb o z=>Af _ _ _ _ (j _ _ (af b o z))) L J⟩
end
theorem SD{mg:Str->Option Value}{x:Str}{n:Int}{t:Tok}(h:mg x=some (.int n t)):∃t,mg x=some (.int n t):=⟨t,h⟩
theorem ni{mg:Str->Option Value}{x y:Str}{t:Tok}(h:mg x=some (.str y t)):∃t,mg x=some (.str y t):=⟨t,h⟩
theorem na{K:PySem.W.Frag}{C:Addr}{f:Str}(h:PySem.W.findIn K (.ref C) f=some none):Bj K C f:=h
theorem Ug{K:PySem.W.Frag}{p:Addr}{xs:List V}{j:Option Addr}{its:Array Value}{n:Nat}{q:Array (Option Value)}(l:K.lookup p=some ⟨.type "tuple",j,.seq its n,q⟩)(z:its.size<=sizeLine)(v:Vals xs its.toList):∀H:Hp,Cd K H p xs:=
 λ_=>.inr ⟨_,its,n,l,rfl,rfl,z,v⟩
inductive KE(w:World):List DictEntry->List (Key×V)->Prop
 |n:KE w [] []
 |c {e:DictEntry} {k:Key} {v:V} {es:List DictEntry} {kvs:List (Key×V)}:Pf k e.key=true->e.hash=sr w k->RelV v e.val->KE w es kvs->KE w (e::es) ((k,v)::kvs)
theorem tZ{P:Program}{w:World}{es:List DictEntry}{kvs:List (Key×V)}(h:KE w es kvs):(∀e∈es,∃k,(BQ P w).is k e.key=true/\e.hash=(BQ P w).hash k)/\∃vs,KV kvs vs/\Pairs (BQ P w) es vs/\vs.map (·.1)=kvs.map (·.1):=by
 induction h with
 |n=>exact⟨λ_ h=>(yh h).elim,[],.nil,.nil,rfl⟩
 | @c e k v es kvs h1 h2 q _ z=>
  obtain⟨a,vs,b,c,d⟩:=z;refine⟨λx j=>?_,(k,e.val)::vs,.cons ⟨rfl,q⟩ b,.cons h1 rfl c,by simp[d]⟩;rcases xb.mp j with rfl|j
  .exact⟨k,h1,h2⟩
  .exact a x j
theorem UH{w:World}{K:PySem.W.Frag}{a:Addr}{es:Array DictEntry}{ep:Nat}{kvs:List (Key×V)}(l:K.lookup a=some ⟨.type "dict",none,.dict es ep,#[]⟩)(j:(a==sysModules)=false)(n:(kvs.map (·.1)).Nodup)(h:KE w es.toList kvs):KD w K a kvs:=λP _ X=>by obtain⟨u,vs,b,c,d⟩:=tZ (P:=P) h;exact⟨j,vs,b,_,es,ep,X _ _ l,⟨rfl,rfl,rfl⟩,rfl,λe q=>u e q.val,c,by rw[d];exact n⟩
theorem all_mk{P:Program}{w:World}{K:PySem.W.Frag}{mg:Str->Option Value}{j:Addr}(T:Txt w K mg)(n:mg "answers"=some (.ref j)):
  ∃fd:FuncData,(∀(s:Shared)(us:List Value),us.length=(["calls"]:List Str).length->BindsTo s fd ⟨us,[]⟩ ((["calls"]:List Str).zip us))/\∀base:Heap,K.In base->base.Ns mainGlobals mg->IV P w K mg base kC 10 j fd ["calls"] (J0 K):=by
 have e:=n.symm.trans T.jP;have q:j=T.Q7:=by injection e with e;injection e
 subst q;refine⟨T.Xk,λs us z=>?_,λbase _ _=>(fb T).1⟩;obtain⟨N,O,kV,B,pm,U,I,Y,J,L,lk,M⟩:=T.Q4.ex;rw[L];obtain⟨_,rfl⟩:=jN z;exact .of_eq rfl
theorem lO{K:PySem.W.Frag}{H:Hp}{xs:List V}{a:PySem.W.Codec.denoteAll PySem.Challenge.rw_classeditions_s01_answers.args}(j:PySem.W.Codec.app PySem.Challenge.rw_classeditions_s01_answers.args PySem.Challenge.rw_classeditions_s01_answers.asked a=true)(B:Ia K H xs (PySem.W.Codec.encAll PySem.Challenge.rw_classeditions_s01_answers.args a)):
  J0 K xs H (λv H'=>Dw K H' v (PySem.Challenge.rw_classeditions_s01_answers.ret.enc (PySem.W.Codec.app PySem.Challenge.rw_classeditions_s01_answers.args PySem.Challenge.rw_classeditions_s01_answers.f a))) (λ_ _ _=>False):=by
 cases B with
 |cons h1 h2=>
  cases h2;cases h1 with
  | @lst l _ _ I J=>
   have e:=gG a.1 _ J;subst e;obtain⟨ds,e1,n,q,L⟩:=handed (l:=a.1) j;refine⟨l,ds,rfl,λH' s=>?_,n,q,λH' p _ _ M=>?_⟩
   .have h:=s.seq I;rw[e1]at h;exact h
   .have z:LZ H' p (PyVbptal.answers a.1):=by rw[L];exact M
    exact Dw.lst (Ah.of z) (gU _)
end CE
end

section
set_option genInjectivity false
set_option genSizeOfSpec false
set_option genSizeOf false
structure PySem.W.Fast where(tw13609110746898649151 tw7733643723211636979 tw17836250387731308778 tw16257003562096930414 tw1038535659122598843 tw16387050078519153722 tw4793609185288214627 tw1007482095796005953 tw17632679943959508496 tw12872019155860405988 tw12115562180797318025 tw3891689948144000677 tw154611805767518556 tw16041033055208158853 tw1114966671058043558 tw385779634023988314 tw2324972348051413893 tw6491845135014045985 tw6139948951058844043 tw13678938277684511123 tw7869660581915920157 tw10436404567907776001 tw10743419651921276052 tw17130796518819927679 tw6376797983961147263 tw9380722761206545869 tw17429647252591275480 tw16630231240595816286 tw8465659540918346166 tw4607807108285503946 tw849752500129228040 tw3728043507228442039 tw278132974905158302 tw7604068218090431888 tw1132830008290513635 tw4043181507384139383 tw15024933207948026097 tw3059940157155313910 tw2541915253970059966 tw16502627772141117564 tw18087984818314648663 tw4202224624387115011 tw15365445349583004246 tw4110533899380895058 tw8435671322450688130 tw16071883419002165685 tw13377735107432615596 tw6863235860554637156 tw12959062722398922054 tw908078094565953884 tw17008423367686214264 tw4671997946434930303 tw4810169520161026318 tw10056968860555651138 tw4619551618131895787 tw17861447757769599831 tw12610835311811182418 tw17901552442562303819 tw15205545896968869043 tw2884091325730239379 tw13900386180792735104 tw14688913081707749807 tw6697330011840633400 tw1181355268646319997 tw7012142361804485781 tw648994833068200394 tw5786632661364702402 tw15556615836133685650 tw1408098358054940192 tw12480083803050054958 tw7512688857911905496 tw9674402760963289902 tw7189453466844102592 tw14918906520231619085 tw16885531581208705238 tw7153498582447537463 tw9168908793783366036 tw12012353625065138404 tw9900301155634603876 tw4062926525997396446 tw17761396284864790023 tw1274950963216815598 tw6862285774613577546 tw3083331419122867959 tw6529066489733523739 tw7657228575460577807 tw2749058735185647845 tw11284730798577238029 tw14142829150335406085 tw2350995003835052018 tw4391849704117339119 tw17457445892267390495 tw1357854709680441422 tw442423439677599464 tw15981707568912545150 tw1608641833539067480 tw9275212389610629465 tw16683341332366895216 tw6237750160759386384 tw8220606370185542043 tw1488308485241955757 tw16204158306969882900 tw209223716274213651 tw7703101524792280170 tw14500684154040764999 tw10198321946687567976 tw7634761106296464616 tw9344163131823947156 tw9660915613089672335 tw3247150467751392840 tw16877465487862490046 tw14447481190494740060 tw1000665949068587008 tw5766100735608061912 tw6204306239821332387 tw10247380039075817847 tw6791114099558242998 tw2773487097109287548 tw819586732708691350 tw7345989805464767643 tw11285381881152465013 tw7490562164217130950 tw7930493586706994587 tw12412151320761178394 tw14627143559182437962 tw16443114543087154599 tw276250750455588041 tw3891331212628482618 tw6203321837647079422 tw15678894391217605636 tw6723343329183292103 tw543626870015759432 tw17015042233094006157 tw7254435449807089903 tw8749009595291883951 tw12388371568519129860 tw8177048605618967607 tw15624856801397156210 tw14019765564189032457 tw10006541027425551796 tw14735583192120104382 tw12725551040419486358 tw12480036849013058475 tw14199832965954407322 tw13557878335431739894 tw7516303417727114232 tw14517063648854763811 tw18138094002633718221 tw13743407669369246461 tw649921153202930787 tw13094008194847186858 tw6323162507595968112 tw1297385580140584371 tw5592158776992774694 tw11955982643127436729 tw3306457057049995664 tw5763377505127168339 tw8527058251339629227 tw3297040608314176766 tw5616986870027097744 tw4589873211260353676 tw4490173707973138033 tw10753696270917828186 tw5930081301003050434 tw8992570829247789042 tw350046697360308658 tw5321536104417771605 tw9410351626516149687 tw8710617449739478602 tw15681465936270347441 tw3335892607427655522 tw12514896077809069445 tw3732399301144757169 tw2217499792214510126 tw10646400607586084702 tw621136780255796546 tw5670790873045963068 tw364206881306258385 tw1790529089631588644 tw8669975836992300980 tw5824506352030954909 tw4293573856405622467 tw7727090361736019204 tw2377811097330313412 tw860781347754490210 tw4116490773671144699 tw8166784763672399617 tw13321473147372865187 tw1399840563383652247 tw5718348622872101748 tw8580071075698313338 tw2422074529356508012 tw18421266787526560531 tw17214102275724124607 tw15190171472290217790 tw5325738278345041549 tw15727894653264923147 tw16581486702739383197 tw1795235772613231907 tw2833994581272525137 tw12621617294641188501 tw6046806431616207438 tw17602516003374519511 tw18429725363669920573 tw15913372961619212828 tw6645512501572483629 tw12805211591339025873 tw3737974007875561590 tw3476731674813400344 tw18004831713117510394 tw18177201240172879230 tw10575642954862002292 tw15092696802221488174 tw328156067340969211 tw16713392781204251322 tw7656127627217408368 tw4207700046566362113 tw10107908358599827968 tw4338715003888157108 tw11384646031154290985 tw15872693760789363672 tw6959470335356659065 tw7803336658362837477 tw9160542707616472591 tw14177928321566739934 tw1436517556072009783 tw4561626714746007751 tw15003153981097380024 tw9671803367375317011 tw3563155101715509031 tw15135535351886791741 tw935200836657421199 tw10921344588861909603 tw5519397180558502621 tw10924422013978271037 tw8310348036654735549 tw14700233803832849450 tw5215022772462344409 tw4682403515913360911 tw3364928290721159756 tw18431326013116976665 tw13784859334191457142 tw6174767665835591221 tw9488353111521669652 tw2165569326065905724 tw11985406326525969441 tw3161740597538667594 tw7431065024270529828 tw874935546073685487 tw14376938491211980985 tw10740121573137058532 tw11450943838129371675 tw4609424345686420753 tw2469678000743434046 tw806600682491945403 tw15218540989673396809 tw12434409146975461373 tw2521250494165539350 tw15002690166528673346 tw12119107444727328000 tw10168976485540244692 tw10747107794546712439 tw5142929057520266370 tw3765422218772399267 tw617032985048060109 tw16752054740066719914 tw10916404680948665651 tw4366406877329052917 tw18250343326392375837 tw1577136117402959090 tw17337560751919911995 tw17487119249625217900 tw8481569729134611549 tw315450646511529167 tw10378589055117553219 tw328372281250995452 tw7447959563070650237 tw17026145878060921935 tw16680226125546219601 tw13702772625990633362 tw16901817440675915135 tw3860090064710644560 tw13385373225240765872 tw16347767333485660188 tw5642539033102803589 tw5945068656313257922 tw15207988413301665180 tw8747440936154199271 tw16421278789628778620 tw17000109999172505881 tw9086284874089613763 tw3286215870711997470 tw11331239506766161734 tw12567816864354065897 tw11229432999360168637 tw11957613983250735240 tw7778005373215684819 tw5939830872283604474 tw5727502988394528995 tw10441741720701293358 tw13356496213552487079 tw13202112827383870462 tw9252766472485788515 tw4598822958981586235 tw17280784969765342006 tw5851835527989032776 tw13853752197533929871 tw15243877078596765666 tw10699424924075584692 tw14219222579179251945 tw7422953610161771563 tw15468162229720531938 tw3960480898781341240 tw13748304528847443113 tw6954757458814732383 tw12392535916282719706 tw17167781761742780640 tw11419988326061965799 tw14607702350866929385 tw7297657665766590889 tw2131612722827000835 tw6541778792879339719 tw15639072320963596478 tw7950743842686591226 tw1078765702162057869 tw6228716831682825669 tw270363077868478422 tw13826734099838463738 tw16483198833124085256 tw11321885849173635421 tw1921416327333768982 tw11389928193225115099 tw16540162901192207500 tw11040950786580692039 tw3857136227637619694 tw15117791821376188293 tw268293889536635067 tw5451786460942983065 tw18326503741453157961 tw11111558461093757415 tw1811715254304344008 tw3415957186658022886 tw12870817619425342977 tw13497618725806552447 tw11274538123746230235 tw8887636472404445431 tw12820224426090436079 tw1900549404166148640 tw16469137122908852164 tw4013126323662620163 tw16951216184355076595 tw2983933553131924079 tw12538001836095598455 tw8621646108022080907 tw4501765918295289409 tw876182565950373692 tw9056515478060315855 tw319407349243469737 tw8048542667528867022 tw11059487269107975078 tw4496831190038534954 tw13823188153396221905 tw14856345200887095763 tw14810235410222726365 tw16339263607528606970 tw11294299860691707330 tw1381024869972134532 tw16785008272023343160 tw11595152170516594967 tw11790957531236348006 tw12800408388636944806 tw2998463637603743737 tw1799009839335408708 tw1159463051694582272 tw15063519764700834075 tw465128921440365630 tw16505917130406242204 tw16376213050791127747 tw16666539523546698776 tw4708165111148362 tw9511330207509358362 tw3352263330019422530 tw2051701096014651736 tw4779943752474611610 tw8618973259638281605 tw7982480469896932683 tw7279228459927759696 tw7213885463085064090 tw10926821705934819522 tw9394322354600481761 tw13483524209114297456 tw11862129029170116311 tw15374374289234428933 tw4439118411566574819 tw13804998737372302945 tw9338635675627689699 tw18147459217569728800 tw8820298785763823582 tw8700118685966087823 tw311106770935491416 tw10886969439234109640 tw6344642297494527202 tw7019056832105540063 tw7898760341700648197 tw16541873340037958468 tw8685585156703296469 tw3409653457138010143 tw6810929894465850120 tw2224507514087192408 tw13283592479919393020 tw9200955563212704870 tw15678972000282911375 tw13596510122238558510 tw13512491000270463457 tw10201759486963166359 tw16865353526412693957 tw9108488624770085849 tw2636498497081900004 tw11935261181634673291 tw1392495331203002856 tw2370752094518485833 tw11397523198476644795 tw14067787355346671158 tw13195141225651691762 tw10327152805380921676 tw2287849263495452457 tw16437350213206813100 tw1115473262052638865 tw3002947946775146286 tw10703356247680590208 tw11670737345518319327 tw15121171754820197044 tw6791696310216089502 tw6718586342607368040 tw13244530939472619182 tw4016096888280382971 tw7067264129967573949 tw16659404862910429712 tw16885924212321911016 tw1747294778255043050 tw10624694176966496840 tw4158571952146772782 tw16286690251694694807 tw5414001508259454100 tw4301872939283406317 tw6380237888890538953 tw9666669711252417390 tw6845678510459783805 tw12286557420898194252 tw6440458342239266532 tw17970851125458944202 tw804429403418473127 tw1315887315635037049 tw15542894401942561468 tw4428076718487471764 tw13922150550116439916 tw16173952474978267354 tw15412117634689667946 tw8272461462541821032 tw17946409016469842973 tw6653756546144005370 tw14370904384257388841 tw7176112510318052718 tw11249625365267923462 tw3536333534946890812 tw1402591039926006774 tw10577686187213018720 tw17295414106707097069 tw9098074310303872231 tw768172228475681389 tw150284787591654626 tw17061518945380387976 tw12207875930166008548 tw13883054829431070755 tw8671422466898390614 tw14200038099420501855 tw12369576305308427065 tw2953687524203376391 tw4965442126533667488 tw95738382779603412 tw14470276333425002591 tw4351770851797834 tw16503286321709533230 tw8111404770526348810 tw995585375313001432 tw913718204028428682 tw8180964571779811381 tw6935053547939944077 tw6140577740546447739 tw3830727689485325583 tw13796209556232904286 tw15037543424550579259 tw9960378013998014763 tw9003720491164693927 tw2401922513473867694 tw13130971428524108602 tw13598252264061360421 tw2935164887500448825 tw4809764052772101311 tw9268947409760336932 tw12026189299749661877 tw553431011954262132 tw1354287868198408322 tw10592196842361277420 tw8037399884868399839 tw13590000865194102911 tw1338772017714681369 tw11482375935471225052 tw3072023695636563880 tw15672892418984910542 tw12274434622410454375 tw441400492905954180 tw9855053852880483238 tw2500406863984754071 tw590915087592125507 tw5947225091784968389 tw1643097652227211443 tw10976140211794199642 tw11918049645584389574 tw11160495739864809272 tw15944602253168771616 tw16701890188820463135 tw6759024852501020618 tw13585998526308060231 tw3740566836604839231 tw4368983806046610791 tw18185606863961803497 tw195646864225588417 tw16914316624771545189 tw9161999879455823121 tw16688008993394056832 tw8082130337063126336 tw10646758902831606631 tw12073085411462277706 tw8944039708837959271 tw17197287230302917737 tw6073929785353300622 tw7493157215061204185 tw9148198555488601389 tw16368655123669378604 tw8378776560438301449 tw13393460323793355817 tw14194104263547391990 tw15234497202444273475 tw5836363397377352342 tw10092778676198793709 tw8468448174776388630 tw10536991148733809105 tw7833481377758138376 tw8807785656439779882 tw15245125585889335818 tw2981250109841732985 tw12537484205058242764 tw5661505142631146662 tw9151298177897137803 tw4766373827155637304 tw7429169290688776895 tw4815173768565386316 tw6778801771092257270 tw12901507954158310369 tw18385586236277014907 tw11510345899113847577 tw6693780416088004777 tw3058350611898496340 tw7389495863940912602 tw5865792124773299467 tw6564993143786510727 tw9188260793797841128 tw3050072742746277386 tw6623199790700179598 tw5309753032786414219 tw10015987199988760532 tw16100841201890807631 tw13865027905020948385 tw16299513610853657280 tw10024947545464574388 tw4123092688840616173 tw8262633880167644748 tw13442332128640887783 tw18250900799908139334 tw10108917608742071680 tw12694714059099720314 tw101914858700333550 tw17211153803572737299 tw1871097041734743868 tw15555874153225408920 tw1731777307417587197 tw4687592817281510073 tw2627109811272335680 tw15004773648376838664 tw4136261546806921518 tw13506632139630169879 tw2494211926742202780 tw4990185081544659710 tw7978915097636176695 tw126124737541859393 tw8192008431654724608 tw12422916784543453812 tw15375841118623075218 tw397098804194483877 tw4732547824152371609 tw5082584689970765784 tw14885740938559358301 tw16580942458673529048 tw4629507194539056924 tw8009308024854486493 tw13662656702305595667 tw10629668507199492090 tw12190293393675182641 tw16526222836836944079 tw14186189740416843038 tw16918274628529318490 tw310195014889942129 tw2033196386083181336 tw14652949170363504606 tw17401942427692406051 tw17856474963857755691 tw14642093810726106169 tw15889321840150824799 tw17813933013222373925 tw9514601325297563470 tw4080642103274121606 tw9362019459793016450 tw11161477890470633086 tw8428011010576903464 tw138908395574856495 tw12366064910006574006 tw16260033686795390406 tw2781691585837368667 tw10734247604126345636 tw14809240606856768362 tw13104372371755403926 tw15029096280848130120 tw4746278859058996382 tw11443382124928324430 tw10861460444566095086 tw14649935317033435921 tw3167576528890882831 tw9299075579939346514 tw16975263220793308021 tw10616371293201251618 tw15835870502447218422 tw15791693026435120022 tw4006874640899829658 tw4176893145044064220 tw381684332746447151 tw9520434293256317403 tw16430342485157038083 tw15570758704623890370 tw16620850290625982560 tw12348455255133850893 tw11441473081449335368 tw2172980472089467812 tw10280263689424326741 tw14823313645012549738 tw16792880565360131747 tw12241914112958606871 tw6021212585168315577 tw8332710422994987048 tw11981256698203704379 tw2419524165241774105 tw1016818092086149441 tw7033448123956698244 tw13897296210680995473 tw8975069529622362913 tw6553502718069041241 tw1760716003056106512 tw17052069839154521864 tw5533197951034854474 tw16106977060078841489 tw384342649631213384 tw14053174301481275568 tw3285797810398819615 tw8274415747664553748 tw3560579096303813319 tw11030312922383024647 tw14606690047143994514 tw11525836656545936018 tw16495122046174978594 tw11703566793115796331 tw7505460922337397448 tw9622476554488301770 tw6408186412756805741 tw8643509416928468184 tw6347430045888142511 tw7831372718156847690 tw4878411797772900001 tw1719516654717060911 tw16347995526017705833 tw7790874240290112451:True)
end
open PySem PySem.W PyProof.Rows
set_option maxRecDepth 100000 in
set_option maxHeartbeats 0 in
theorem PySem.Challenge.cw_classeditions_s01_answers_holds : PySem.Challenge.rw_classeditions_s01_answers.Holds := by
  w_on; k_headS; (case hw => exact ⟨[.list [.int 18, .int 0, .int 0]], by decide +kernel, by decide +kernel⟩)
  k_fillS
  refine L2.dP (r := PySem.Challenge.rw_classeditions_s01_answers) (k := 10) (CX := L2.kC) (ps := ["calls"]) (sp := CE.J0) (by decide +kernel) rfl rfl ⟨rfl, by decide, by decide⟩ (fun w h Y => PySem.W.kIn_of Y) ?F ?S (fun _ _ _ _ z => z)
  case F =>
    intro w mg fa h Y KX G hmg
    refine' CE.all_mk (CE.Txt.mk (y1 KX G ?_) (y1 KX G ?_) (y1 KX G ?_) (y1 KX G ?_) (y1 KX G ?_) (y1 KX G ?_) (y1 KX G ?_) (y1 KX G ?_) (y1 KX G ?_) (CE.SD (xK KX G ?_)) _ (xK KX G ?_) (CE.Ug ?_ ?_ ?_) (CE.SD (xK KX G ?_)) (CE.SD (xK KX G ?_)) (CE.SD (xK KX G ?_)) (CE.SD (xK KX G ?_)) (CE.SD (xK KX G ?_)) (CE.SD (xK KX G ?_)) (CE.SD (xK KX G ?_)) (CE.SD (xK KX G ?_)) (CE.SD (xK KX G ?_)) (CE.SD (xK KX G ?_)) (CE.SD (xK KX G ?_)) (CE.SD (xK KX G ?_)) (CE.SD (xK KX G ?_)) (CE.SD (xK KX G ?_)) (CE.SD (xK KX G ?_)) (CE.SD (xK KX G ?_)) (CE.SD (xK KX G ?_)) (CE.SD (xK KX G ?_)) (CE.SD (xK KX G ?_)) (CE.SD (xK KX G ?_)) (CE.SD (xK KX G ?_)) (CE.SD (xK KX G ?_)) (CE.ni (xK KX G ?_)) (CE.ni (xK KX G ?_)) (CE.ni (xK KX G ?_)) (CE.ni (xK KX G ?_)) (CE.ni (xK KX G ?_)) (CE.ni (xK KX G ?_)) (CE.ni (xK KX G ?_)) (CE.ni (xK KX G ?_)) (CE.ni (xK KX G ?_)) _ (xK KX G ?_) (CE.UH ?_ ?_ ?_ ?_) _ (xK KX G ?_) (CE.UH ?_ ?_ ?_ ?_) _ (xK KX G ?_) (CE.UH ?_ ?_ ?_ ?_) _ (xK KX G ?_) _ (CE.Ug ?_ ?_ ?_) _ (CE.Ug ?_ ?_ ?_) _ (CE.Ug ?_ ?_ ?_) _ (CE.Ug ?_ ?_ ?_) _ (CE.Ug ?_ ?_ ?_) _ (CE.Ug ?_ ?_ ?_) _ (CE.Ug ?_ ?_ ?_) _ (CE.Ug ?_ ?_ ?_) _ (CE.Ug ?_ ?_ ?_) _ (CE.Ug ?_ ?_ ?_) _ (CE.Ug ?_ ?_ ?_) _ (CE.Ug ?_ ?_ ?_) _ (CE.Ug ?_ ?_ ?_) _ (CE.Ug ?_ ?_ ?_) _ (CE.Ug ?_ ?_ ?_) _ (CE.Ug ?_ ?_ ?_) _ (CE.Ug ?_ ?_ ?_) _ (CE.Ug ?_ ?_ ?_) _ (CE.Ug ?_ ?_ ?_) (CE.UH ?_ ?_ ?_ ?_) _ (xK KX G ?_) _ (CE.Ug ?_ ?_ ?_) _ (CE.Ug ?_ ?_ ?_) _ (CE.Ug ?_ ?_ ?_) (CE.UH ?_ ?_ ?_ ?_) _ (xK KX G ?_) (CE.UH ?_ ?_ ?_ ?_) _ (xK KX G ?_) (CE.UH ?_ ?_ ?_ ?_) (CE.SD (xK KX G ?_)) (CE.SD (xK KX G ?_)) (CE.SD (xK KX G ?_)) _ ⟨?_, ?_, ?_, ?_⟩ (xK KX G ?_) (CE.na ?_) (CE.na ?_) (CE.na ?_) _ ⟨?_, ?_, ?_, ?_⟩ (xK KX G ?_) (CE.na ?_) (CE.na ?_) _ ⟨?_, ?_, ?_, ?_⟩ (xK KX G ?_) (CE.na ?_) (CE.na ?_) _ ⟨?_, ?_, ?_, ?_⟩ (xK KX G ?_) (CE.na ?_) (CE.na ?_) (CE.na ?_) (CE.na ?_) _ ⟨?_, ?_, ?_, ?_⟩ (xK KX G ?_) (CE.na ?_) (CE.na ?_) (CE.na ?_) (CE.na ?_) _ ⟨?_, ?_, ?_, ?_⟩ (xK KX G ?_) (CE.na ?_) (CE.na ?_) (CE.na ?_) _ ⟨?_, ?_, ?_, ?_⟩ (xK KX G ?_) (CE.na ?_) (CE.na ?_) (CE.na ?_) (CE.na ?_) _ _ (L2.AV ?_ ?_ ?_) (xK KX G ?_) _ _ (L2.AV ?_ ?_ ?_) (xK KX G ?_) _ _ (L2.AV ?_ ?_ ?_) (xK KX G ?_) _ _ (L2.AV ?_ ?_ ?_) (xK KX G ?_) _ _ (L2.AV ?_ ?_ ?_) ⟨?_, ?_, ?_, ?_⟩ _ _ (L2.AV ?_ ?_ ?_) ⟨?_, ?_, ?_, ?_⟩ _ _ (L2.AV ?_ ?_ ?_) ⟨?_, ?_, ?_⟩ _ _ (L2.AV ?_ ?_ ?_) ⟨?_, ?_, ?_⟩ _ _ (L2.AV ?_ ?_ ?_) (xK KX G ?_) _ _ (L2.AV ?_ ?_ ?_) (xK KX G ?_) _ _ (L2.AV ?_ ?_ ?_) (xK KX G ?_) _ _ (L2.AV ?_ ?_ ?_) (xK KX G ?_) _ _ (L2.AV ?_ ?_ ?_) (xK KX G ?_) _ _ (L2.AV ?_ ?_ ?_) (xK KX G ?_) _ _ (L2.AV ?_ ?_ ?_) (xK KX G ?_) _ _ (L2.AV ?_ ?_ ?_) (xK KX G ?_) _ _ (L2.AV ?_ ?_ ?_) (xK KX G ?_) _ _ (L2.AV ?_ ?_ ?_) (xK KX G ?_) _ _ (L2.AV ?_ ?_ ?_) (xK KX G ?_) _ _ (L2.AV ?_ ?_ ?_) (xK KX G ?_) _ _ (L2.AV ?_ ?_ ?_) (xK KX G ?_) _ _ (L2.AV ?_ ?_ ?_) (xK KX G ?_) _ _ (L2.AV ?_ ?_ ?_) (xK KX G ?_) _ _ (L2.AV ?_ ?_ ?_) (xK KX G ?_) _ _ (L2.AV ?_ ?_ ?_) (xK KX G ?_) _ _ (L2.AV ?_ ?_ ?_) (xK KX G ?_) _ _ (L2.AV ?_ ?_ ?_) (xK KX G ?_) _ _ (L2.AV ?_ ?_ ?_) (xK KX G ?_) _ _ (L2.AV ?_ ?_ ?_) (xK KX G ?_) _ _ (L2.AV ?_ ?_ ?_) (xK KX G ?_) _ _ (L2.AV ?_ ?_ ?_) (xK KX G ?_) _ _ (L2.AV ?_ ?_ ?_) ⟨?_, ?_, ?_, ?_⟩ _ _ (L2.AV ?_ ?_ ?_) ⟨?_, ?_, ?_⟩ _ _ (L2.AV ?_ ?_ ?_) ⟨?_, ?_, ?_⟩ _ _ (L2.AV ?_ ?_ ?_) (xK KX G ?_) _ _ (L2.AV ?_ ?_ ?_) (xK KX G ?_) _ _ (L2.AV ?_ ?_ ?_) (xK KX G ?_) _ _ (L2.AV ?_ ?_ ?_) (xK KX G ?_) _ _ (L2.AV ?_ ?_ ?_) ⟨?_, ?_, ?_, ?_⟩ _ _ (L2.AV ?_ ?_ ?_) ⟨?_, ?_, ?_⟩ _ _ (L2.AV ?_ ?_ ?_) ⟨?_, ?_, ?_⟩ _ _ (L2.AV ?_ ?_ ?_) ⟨?_, ?_, ?_, ?_⟩ _ _ (L2.AV ?_ ?_ ?_) ⟨?_, ?_, ?_⟩ _ _ (L2.AV ?_ ?_ ?_) ⟨?_, ?_, ?_⟩ _ _ (L2.AV ?_ ?_ ?_) ⟨?_, ?_, ?_⟩ _ _ (L2.AV ?_ ?_ ?_) ⟨?_, ?_, ?_⟩ _ _ (L2.AV ?_ ?_ ?_) ⟨?_, ?_, ?_⟩ _ _ (L2.AV ?_ ?_ ?_) (xK KX G ?_) _ _ (L2.AV ?_ ?_ ?_) (xK KX G ?_) _ _ (L2.AV ?_ ?_ ?_) (xK KX G ?_) _ _ (L2.AV ?_ ?_ ?_) (xK KX G ?_) _ _ (L2.AV ?_ ?_ ?_) (xK KX G ?_) _ _ (L2.AV ?_ ?_ ?_) (xK KX G ?_) _ _ (L2.AV ?_ ?_ ?_) ⟨?_, ?_, ?_, ?_⟩ _ _ (L2.AV ?_ ?_ ?_) ⟨?_, ?_, ?_⟩ _ _ (L2.AV ?_ ?_ ?_) ⟨?_, ?_, ?_⟩ _ _ (L2.AV ?_ ?_ ?_) ⟨?_, ?_, ?_⟩ _ _ (L2.AV ?_ ?_ ?_) ⟨?_, ?_, ?_⟩ _ _ (L2.AV ?_ ?_ ?_) (xK KX G ?_) _ _ (L2.AV ?_ ?_ ?_) (xK KX G ?_) _ _ (L2.AV ?_ ?_ ?_) (xK KX G ?_) _ _ (L2.AV ?_ ?_ ?_) (xK KX G ?_) _ _ (L2.AV ?_ ?_ ?_) (xK KX G ?_) _ _ (L2.AV ?_ ?_ ?_) (xK KX G ?_) _ _ (L2.AV ?_ ?_ ?_) ⟨?_, ?_, ?_, ?_⟩ _ _ (L2.AV ?_ ?_ ?_) (xK KX G ?_) _ _ (L2.AV ?_ ?_ ?_) (xK KX G ?_) _ _ (L2.AV ?_ ?_ ?_) (xK KX G ?_) _ _ (L2.AV ?_ ?_ ?_) (xK KX G ?_) _ _ (L2.AV ?_ ?_ ?_) (xK KX G ?_) _ _ (L2.AV ?_ ?_ ?_) (xK KX G ?_) _ _ (L2.AV ?_ ?_ ?_) (xK KX G ?_) _ _ (L2.AV ?_ ?_ ?_) (xK KX G ?_) _ _ (L2.AV ?_ ?_ ?_) (xK KX G ?_) _ _ (L2.AV ?_ ?_ ?_) (xK KX G ?_) _ _ (L2.AV ?_ ?_ ?_) (xK KX G ?_) _ _ (L2.AV ?_ ?_ ?_) (xK KX G ?_) _ _ (L2.AV ?_ ?_ ?_) (xK KX G ?_) _ _ (L2.AV ?_ ?_ ?_) (xK KX G ?_) _ _ (L2.AV ?_ ?_ ?_) (xK KX G ?_) _ _ (L2.AV ?_ ?_ ?_) (xK KX G ?_) _ _ (L2.AV ?_ ?_ ?_) (xK KX G ?_) _ _ (L2.AV ?_ ?_ ?_) (xK KX G ?_) _ _ (L2.AV ?_ ?_ ?_) (xK KX G ?_) _ _ (L2.AV ?_ ?_ ?_) (xK KX G ?_) _ _ (L2.AV ?_ ?_ ?_) (xK KX G ?_) _ _ (L2.AV ?_ ?_ ?_) (xK KX G ?_) _ _ (L2.AV ?_ ?_ ?_) (xK KX G ?_) _ _ (L2.AV ?_ ?_ ?_) (xK KX G ?_)) hmg
    all_goals try k_is
    all_goals try k_is
    all_goals try k_is
    all_goals try (repeat (first | exact CE.KE.n | refine CE.KE.c (by kernel_rfl) (by kernel_rfl) (by first | exact ⟨_, rfl⟩ | exact rfl) ?_))
    all_goals try k_is
    all_goals try (repeat (first | exact Paired.nil | refine Paired.cons ⟨_, rfl⟩ ?_))
    all_goals decide +kernel
  case S =>
    intro K H xs a hO hwi hask hx
    exact CE.lO hask hx
