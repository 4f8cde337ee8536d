import Derived.Deep.RegionLaw
import Derived.WalkSpells
set_option maxRecDepth 200000
set_option maxHeartbeats 16000000
namespace Go.Proofs.YthokdbcpkmcieaaGreatDoor
open RowKit
variable{P:Prop}
abbrev me:=@Option.some.injEq
abbrev mH:=@Prod.mk.injEq
abbrev jT:=@if_pos
abbrev jS:=@if_neg
abbrev T0l:=@Oper.upon_enter
abbrev ow:=@run_append_own_at
abbrev ox:=@Int.tdiv_eq_ediv_of_nonneg
abbrev nK:=@Array.getD_eq_getD_getElem?
abbrev nX:=@Array.getElem?_eq_getElem
abbrev mI:=@ByteArray.ext
abbrev oy:=@ByteArray.data_append
abbrev T0N:=@run_convert_bytes_arg
abbrev lS:=@wp_loop_rounds
abbrev kG:=@rounds_succ
abbrev jV{a b}:=Below.refl a b
abbrev jU{a}:=Nat.le_refl a
abbrev jZ:=@List.getD_eq_getElem?_getD
abbrev kx:=@List.all_eq_true
abbrev lT:=@List.mem_of_getElem?
abbrev kZ:=@List.map_cons
abbrev T0n:=@List.sum_cons
abbrev kh:=@List.length_cons
abbrev T0O:=@List.take_succ_eq_append_getElem
abbrev l7:=@List.map_append
abbrev T0o:=@List.sum_append
abbrev jX:=@List.getElem?_eq_getElem
abbrev nB:=@List.take_append_drop
abbrev nZ:=@Int.eq_ofNat_of_zero_le
abbrev mn:=@run_string_add_sum
abbrev nM:=@wpList_store_row
abbrev kf:=@bodyPost_ret
abbrev ly{a b c d}:=Below.heap_setCell a b c d
abbrev lB:=@ByteArray.toList_eq
abbrev kE:=@Array.length_toList
abbrev kP{a b}:=World.cell?_setCell_same a b
abbrev j3{a b c d}:=World.cell?_setCell_other a b c d
abbrev mR:=@dif_pos
abbrev lC:=@decide_eq_false_iff_not
abbrev nh:=@dif_neg
abbrev kI:=@decide_eq_true_eq
abbrev j8:=@Nat.le_trans
abbrev ke:=@Nat.lt_of_lt_of_le
abbrev kK:=@Nat.add_zero
abbrev mT:=@List.flatMap_cons
abbrev mU:=@List.cons_append
abbrev mu:=@List.nil_append
abbrev mJ:=@List.length_set
abbrev mz:=@List.getElem?_set
abbrev kU:=@ByteArray.size_extract
abbrev kM:=@cell_of_row
abbrev kp:=@Option.some.inj
abbrev jW:=@World.cell?_of_block
abbrev ku:=@World.frozen?_of_block
abbrev j4{a}:=Nat.zero_le a
abbrev kt{a b c}:=Below.heap_alloc a b c
abbrev nj:=@Nat.mul_comm
abbrev kL:=@List.length_map
abbrev mA:=@List.length_range
abbrev kS:=@List.getElem?_map
abbrev nk:=@List.getElem?_range
abbrev mB:=@if_false
abbrev nC:=@Option.map_some
abbrev mg:=@List.getElem?_eq_none
abbrev lH:=@Nat.not_lt_zero
abbrev kR:=@Nat.mul_one
abbrev mo:=@List.mem_cons_of_mem
abbrev kq:=@List.length_append
abbrev lI:=@List.length_nil
abbrev kN:=@Nat.zero_add
abbrev lf:=@List.mem_map
abbrev kQ:=@info_parts
abbrev lO{a b c}:=World.cell?_alloc_old a b c
abbrev mh:=@List.getElem?_eq_some_iff
abbrev kJ:=@Option.map_eq_some_iff
abbrev mC:=@if_true
abbrev lJ:=@List.size_toArray
abbrev lK:=@ByteArray.size_append
abbrev nO:=@List.map_map
abbrev nP:=@List.getElem?_toArray
abbrev nY:=@Below.refl
abbrev n7:=@Below.setCell
abbrev lQ:=@Nat.lt_or_ge
abbrev np:=@wpList_plain
abbrev n8:=@run_makeMap
abbrev lU:=@plainElem_int
abbrev nQ:=@List.flatMap_append
abbrev kV:=@Array.getElem?_eq_some_iff
abbrev kA{a b c d}:=World.ownsRow_nil a b c d
abbrev kC:=@List.getElem_mem
abbrev nr:=@wpList_append_own
abbrev lL:=@List.take_of_length_le
abbrev mV:=@Array.ext'
abbrev lV:=@List.drop_drop
abbrev oA:=@Array.getElem?_toList
abbrev n9:=@List.getElem?_take
abbrev mK:=@List.getElem?_drop
abbrev mq:=@IntKind.wrap_u16
abbrev od:=@Nat.pow_le_pow_right
abbrev mL:=@List.take_length
abbrev lM:=@List.mem_range
abbrev kB:=@Bool.and_eq_true
abbrev mM:=@Bool.or_eq_true
abbrev mW:=@Bool.not_eq_true'
abbrev T0p:=@List.length_take_le'
abbrev lh:=@Nat.le_of_ble_eq_true
abbrev nS:=@Bool.false_eq_true
abbrev oB:=@Prod.ext
abbrev lD{a}:=World.block_lt_of_cell? a
abbrev kT{a b}:=frozen_of_row a b
abbrev T0q:=@List.length_take_le
abbrev oC:=@Int.tmod_eq_emod_of_nonneg
abbrev mN:=@Bool.false_or
abbrev oD:=@List.map_congr_left
abbrev oe:=@decide_eq_decide
abbrev lj:=@List.takeWhile_cons
abbrev T0r:=@Array.size_append
abbrev oE:=@Array.size_map
abbrev mO:=@World.frozen?_setCell
abbrev og:=@run_convert_bytes_back
abbrev oh:=@ByteArray.data_extract
abbrev oF:=@Array.toList_extract
abbrev mD:=@List.length_drop
abbrev oG:=@List.all_append
abbrev mv:=@List.length_eq_zero_iff
abbrev lR:=@List.take_add_one
abbrev oH:=@IntKind.wrap_u64
abbrev oi:=@List.foldl_cons
abbrev lp:=@congrArg
abbrev oj:=@List.takeWhile_prefix
abbrev mw:=@Value.slice.injEq
abbrev T0s:=@Addr.mk.injEq
abbrev oI:=@World.ownsRow_lit
abbrev oz:=@World.ownsRow_nil
abbrev l8{a b c}:=cell_one_new a b c
abbrev nt:=@results_none
abbrev kg:=@heap_alloc_new
abbrev jY{a b c d e}:=cell_of_row a b c d e
abbrev kj:=@decide_eq_true
abbrev j9:=@decide_eq_false
abbrev nD:=@List.length_take
abbrev k9:=@Addr.add_lit
abbrev T0t:=@List.getElem_take
abbrev T0u:=@List.getElem_drop
abbrev T0v:=@Array.toList_append
abbrev mE:=@List.mem_of_find?_eq_some
abbrev nw:=@List.find?_some
abbrev lW{a}:=Nat.lt_succ_self a
abbrev oJ:=@Nat.le_of_lt
abbrev T0w:=@List.getElem?_cons_zero
abbrev T0x:=@List.getElem?_cons_succ
abbrev kk:=@heap_setCell_other
abbrev lq:=@heap_setCell_same
abbrev kH:=@wpList_append_own_at
abbrev kD:=@frozen_of_row
abbrev mx:=@beq_iff_eq
abbrev ny:=@List.eq_nil_of_length_eq_zero
abbrev T0y:=@List.length_filter_le
abbrev T0z:=@List.filter_append
abbrev T0T:=@List.filter_eq_nil_iff
abbrev om:=@List.any_eq_false
abbrev oK:=@Option.toList_some
abbrev nT:=@List.cons.injEq
abbrev nE:=@true_and
abbrev mX:=@and_true
abbrev T0A:=@Int.ofNat.inj
abbrev T0B:=@List.takeWhile_sublist
abbrev kF:=@List.mem_cons
abbrev kW:=@List.mem_append
abbrev l9:=@Option.bind_eq_some_iff
abbrev lr:=@List.getElem?_append_right
abbrev lz:=@List.getElem?_append_left
abbrev oL:=@List.length_singleton
abbrev nU:=@List.find?_eq_none
abbrev lE:=@List.not_mem_nil
abbrev lF:=@or_false
abbrev T0D:=@Nat.eq_zero_or_pos
abbrev T0E:=@Nat.mul_le_mul_right
abbrev oq:=@List.range_succ
abbrev kX:=@List.append_nil
abbrev T0F:=@List.flatMap_nil
abbrev mS:=@List.append_assoc
abbrev oM:=@List.mem_cons_self
abbrev lu:=@List.mem_singleton
abbrev ot:=@Int.le_refl
abbrev oN:=@List.mem_reverse
abbrev nV:=@List.any_append
abbrev mj:=@List.any_eq_true
abbrev lY:=@List.drop_eq_getElem_cons
abbrev mY:=@List.drop_of_length_le
abbrev oO:=@Sem.run_bind
abbrev T0a:=@Sem.run_pure
abbrev T0b:=@Result.andThen_ok
abbrev T0c:=@List.map_toArray
abbrev mZ:=@List.map_nil
abbrev nF:=@Nat.add_comm
abbrev lX{a b c d}:=heap_setCell_other a b c d
abbrev ky:=@IntKind.wrap_i64
abbrev T0d:=@of_decide_eq_false
abbrev T0G:=@List.mem_flatMap
abbrev T0e:=@Below.trans
abbrev T0H:=@World.cell?_alloc_mark
abbrev mP:=@List.getElem_of_mem
abbrev T0I:=@List.takeWhile_append_of_pos
abbrev T0f:=@UInt8.toNat_add
abbrev lG:=@IntKind.wrap_u8
abbrev kY:=@results_cell_row
abbrev j7{a b c d e f}:=heap_setCell_same a b c d e f
abbrev T0g:=@Bool.eq_false_iff
abbrev T0V:=@List.drop_eq_nil_of_le
abbrev mQ:=@of_decide_eq_true
abbrev T0h:=@List.contains_iff_mem
abbrev lA:=@UInt8.toNat_inj
abbrev nW:=@Nat.ne_of_lt
abbrev lZ:=@Nat.le_of_eq
abbrev mF:=@not_or
abbrev T0W:=@List.find?_eq_some_iff_getElem
abbrev nG:=@beq_false_of_ne
abbrev nz:=@heap_alloc_old
abbrev my:=@Nat.sub_self
abbrev ng:=@Nat.add_assoc
abbrev T0i{a}:=Nat.succ_pos a
abbrev T0j:=@Array.toList_inj
abbrev mG:=@List.getElem?_replicate
abbrev ld:=@List.length_replicate
abbrev T0Y:=@List.set_append_right
abbrev lP:=@ownsRow_setCell_other
abbrev T0Z:=@ownsRow_setCell_below
abbrev nA:=@UInt8.toNat_ofNat'
abbrev T1a:=@List.getElem_cons_zero
abbrev nH:=@Nat.zero_mul
abbrev T1b:=@List.getElem_cons_succ
abbrev T0K:=@List.all_cons
abbrev T1d:=@Decidable.byContradiction
abbrev ou{a b}:=Nat.le_add_right a b
abbrev lN:=@List.any_cons
abbrev ml:=@Bool.or_eq_false_iff
abbrev nI:=@Bool.or_false
abbrev nJ:=@Bool.or_assoc
abbrev T0k:=@List.dropWhile_cons
abbrev T1h:=@List.takeWhile_append_dropWhile
theorem Zg0.{u}{α:Sort u}(a:α):∃b,a=b:=⟨_,rfl⟩
theorem _root_.Go.RowKit.Hid.o{p:Prop}(h:Hid p):p:=h
theorem bH(h:P:=by have:=HJ.o;omega):P:=h
theorem ao(h:P:=by go_num):P:=h
theorem cY(h:P:=by rw[HT.o];rfl):P:=h
theorem ae(h:P:=by omega):P:=h
theorem ah(h:P:=by decide):P:=h
theorem ak(h:P:=by unfold maxLen;omega):P:=h
theorem ai(h:P:=by simp;omega):P:=h
theorem dY(h:P:=by have:=Ki.o;rw[<-HN.o]at this;exact this):P:=h
theorem dZ(h:P:=by have:=Kc;rw[<-HN.o]at this;exact this):P:=h
theorem ed(h:P:=by have:=Kg;rw[<-HN.o]at this;exact this):P:=h
theorem eh(h:P:=by have:=HA.o.2;rw[HN.o]at this;exact this):P:=h
theorem cv(h:P:=by have:=OV.o;unfold maxLen;omega):P:=h
theorem cz(h:P:=by have:=OV.o;omega):P:=h
theorem aZ(h:P:=by have:=(HB.o).size;simp;omega):P:=h
theorem bI(h:P:=by rw[HN.o];omega):P:=h
theorem ax(h:P:=by intro u hu;simp at hu;subst hu;rfl):P:=h
theorem bJ(h:P:=by have:=HB.o.size;simp;omega):P:=h
theorem aw(h:P:=by simpa using fun e=>K7 e.symm):P:=h
theorem aj(h:P:=by kernel_rfl):P:=h
theorem aL(h:P:=by rw[lG];omega):P:=h
theorem cB(h:P:=by rw[<-HX.o];rfl):P:=h
theorem an(h:P:=by have:=Kw.o;omega):P:=h
theorem eo(h:P:=by show w.heap.size<=w.heap.size+1;omega):P:=h
theorem ep(h:P:=by have:=MP.o.size;omega):P:=h
theorem bt(h:P:=by have:=HV.o;omega):P:=h
theorem af(h:P:=by simp):P:=h
theorem cZ(h:P:=by have:¬tj.kind.toNat=0:=fun e=>Mu (lA.1 e);simp;omega):P:=h
theorem au(h:P:=by rw[hw];decide):P:=h
theorem aM(h:P:=by rw[<-HF.o];rfl):P:=h
theorem aN(h:P:=by rw[kU];omega):P:=h
theorem da(h:P:=by simp[Region.wanted,hg]):P:=h
theorem er(h:P:=by show w.heap.size≠w.heap.size+1;omega):P:=h
theorem dc(h:P:=by have:=(h.lt sb e.symm).1;omega):P:=h
theorem aA(h:P:=by rw[HN.o];exact Kf):P:=h
theorem aO(h:P:=by simpa using h2):P:=h
theorem bu(h:P:=by rw[h0]):P:=h
theorem cC(h:P:=by rw[<-HR.o];rfl):P:=h
theorem aP(h:P:=by simp[rT]at h):P:=h
theorem de(h:P:=by rw[uj n hn Rt];omega):P:=h
theorem dh(h:P:=by rw[uj n1 b1 c1];omega):P:=h
theorem aq(h:P:=by decide +kernel):P:=h
theorem az(h:P:=by simp[World.setCell]):P:=h
theorem aI(h:P:=by rw[qw];simp only[lC];omega):P:=h
theorem et(h:P:=by rw[qw];simp only[kI];omega):P:=h
theorem av(h:P:=by simpa using h):P:=h
theorem bd(h:P:=by simp[Value.ownBlock]):P:=h
theorem bz(h:P:=by simpa using hj):P:=h
theorem aJ(h:P:=by simpa using hk):P:=h
theorem di(h:P:=by rw[lK];omega):P:=h
theorem aQ(h:P:=by rw[hb.cell (by simp)];simp):P:=h
theorem bK(h:P:=by rw[hb.frozen (by simp)];simp):P:=h
theorem dj(h:P:=by rw[lO (by simp;omega),Kh.cell (by simp;omega)];exact hm):P:=h
theorem aE(h:P:=by rw[Lt.cell (by simp)];simp):P:=h
theorem dk(h:P:=by rw[Lt.cell (by simp)];exact OM _):P:=h
theorem dn(h:P:=by have:=Lt.size;simp at this;omega):P:=h
theorem dp(h:P:=by have hx:=Lt.mono (B':=w1.heap.size+1) (by simp);exact⟨hx.os,hx.tape,hx.output,hx.size,hx.block⟩):P:=h
theorem dq(h:P:=by have:=PL.size;simpa using this):P:=h
theorem bA(h:P:=by have:=Lf.size;simpa using this):P:=h
theorem bB(h:P:=by have:=hr.hn1;omega):P:=h
theorem fL(h:P:=by rw[Kq.cell (by simp),Lf.cell (by simp)];simp):P:=h
theorem eu(h:P:=by rw[tA];exact h.n0):P:=h
theorem ew(h:P:=by rw[tA];exact h.n1):P:=h
theorem bf(h:P:=by rw[M5]):P:=h
theorem dr(h:P:=by rw[M5];exact LB):P:=h
theorem dt(h:P:=by show 11<17;omega):P:=h
theorem aR(h:P:=by simp at h):P:=h
theorem bg(h:P:=by simp[pT]):P:=h
theorem du(h:P:=by rw[Lz.cell (by simp)];simp):P:=h
theorem dw(h:P:=by rw[Lz.frozen (by simp)];simp):P:=h
theorem dx(h:P:=by simp[results,results96,go_sem,r0,r1,r2,r3,qA]):P:=h
theorem bL(h:P:=by simpa using hl):P:=h
theorem aS(h:P:=by rw[hb];decide):P:=h
theorem fM(h:P:=by rw[vd b 0 (by rw[hb];decide),vd b 1 (by rw[hb];decide)]):P:=h
theorem eA(h:P:=by have:=M7.size;simpa using this):P:=h
theorem dy(h:P:=by rw[qw,lC];omega):P:=h
theorem cD(h:P:=by have:=Rd.o;omega):P:=h
theorem dA(h:P:=by simpa using hz):P:=h
theorem dB(h:P:=by rw[qw];exact hz):P:=h
theorem cF(h:P:=by simp[hd]):P:=h
theorem dC(h:P:=by simpa using e):P:=h
theorem eB(h:P:=by simpa [World.setCell]using h.le):P:=h
theorem fN(h:P:=by have:=HP.o.le;simp[World.setCell];omega):P:=h
theorem bD(h:P:=by simp[hk]):P:=h
theorem dD(h:P:=by simpa using h1):P:=h
theorem ay(h:P:=by simpa using Kk):P:=h
theorem aF(h:P:=by rw[th KT _ (by simp) (by simp;omega)];simp):P:=h
theorem aG(h:P:=by rw[tY KT _ (by simp) (by simp;omega)];simp):P:=h
theorem eC(h:P:=by simp[results,results280,go_sem,vG,q0,q1,q2,q3]):P:=h
theorem cG(h:P:=by simp[h2]):P:=h
theorem bM(h:P:=by simp at hf;omega):P:=h
theorem fO(h:P:=by rw[<-HR.o,Ei hk h2 h3];unfold ru;rw[Nk];rfl):P:=h
theorem dE(h:P:=by rw[Pn.cell (by simp)];simp):P:=h
theorem fP(h:P:=by rw[<-HR.o,Gt hk h2];unfold ru;rw[Nk];rfl):P:=h
theorem eD(h:P:=by have:=h.size;simpa using this):P:=h
theorem fQ(h:P:=by simp only[pOp];rw[jS h,jS h2,jS h3,h4]):P:=h
theorem cH(h:P:=by simp at hn;omega):P:=h
theorem bj(h:P:=by simpa [World.setCell]using h.size):P:=h
theorem aV(h:P:=by simp[h.fz j]):P:=h
theorem cJ(h:P:=by simpa [World.setCell]using h.lt):P:=h
theorem aW(h:P:=by simp[go_sem,Lm]):P:=h
theorem aB(h:P:=by simp[Act.eval]):P:=h
theorem fR(h:P:=by have:=Kr.size;simp at this⊢;omega):P:=h
theorem fS(h:P:=by obtain⟨es,rfl⟩:=h;exact⟨_,rfl⟩):P:=h
theorem aK(h:P:=by rw[kE];rfl):P:=h
theorem bN(h:P:=by have:=kp e;omega):P:=h
theorem eE(h:P:=by rw[Ke.cellAt 0 (by simp)];rfl):P:=h
theorem eG(h:P:=by simp[results,results201,go_sem,tJ]):P:=h
theorem bO(h:P:=by simp[World.setCell];omega):P:=h
theorem cL(h:P:=by have:=h.lt;omega):P:=h
theorem bQ(h:P:=by rw[HL.o];exact Kf):P:=h
theorem cM(h:P:=by simp at hk;omega):P:=h
theorem bS(h:P:=by rw[jY (0,0) e1];rfl):P:=h
theorem bU(h:P:=by rw[jY (0,0) e0];rfl):P:=h
theorem fT(h:P:=by simp[results,results200,go_sem,qW,p0,p1,p2]):P:=h
theorem eH(h:P:=by show k≠w.heap.size;omega):P:=h
theorem eI(h:P:=by rw[<-Qv];exact(jV).alloc jU _):P:=h
theorem eJ(h:P:=by rw[jY (0,0) Kh];rfl):P:=h
theorem eK(h:P:=by rw[jY (0,0) Wv2];rfl):P:=h
theorem eM(h:P:=by rw[jY (0,0) hN.bk];rfl):P:=h
theorem eO(h:P:=by rw[jY (0,0) hN.hd];rfl):P:=h
theorem dF(h:P:=by simpa using Pq):P:=h
theorem cN(h:P:=by simp[Lv]):P:=h
theorem bm(h:P:=by simpa using Kf):P:=h
theorem aX(h:P:=by simp[World.cell?,OA]):P:=h
theorem dG(h:P:=by rw[jY (0,0) hh];exact hu):P:=h
theorem aH(h:P:=by simp only;omega):P:=h
theorem eP(h:P:=by rw[<-hW];exact(jV).alloc jU _):P:=h
theorem bE(h:P:=by rw[jY (0,0) hh];rfl):P:=h
theorem fU(h:P:=by have:=vz W [.string lb] 9;rwa [NY]at this):P:=h
theorem fV(h:P:=by rw[Kg.block _ (by simp;omega) (by simp[Value.ownBlock]),kt (by omega)]):P:=h
theorem bV(h:P:=by simp[pL]):P:=h
theorem dH(h:P:=by simpa using Mz):P:=h
theorem cO(h:P:=by rw[L3];rfl):P:=h
theorem dI(h:P:=by rw[<-Ud.o];omega):P:=h
theorem cP(h:P:=by rw[Mp];rfl):P:=h
theorem eQ(h:P:=by simpa using h.fz j):P:=h
theorem aY(h:P:=by simp <;> omega):P:=h
theorem ar(h:P:=by rw[ky];omega):P:=h
theorem bW(h:P:=by simp[L3]):P:=h
theorem eS(h:P:=by have:=HP.o.ok.pl;omega):P:=h
theorem dJ(h:P:=by rw[htk];rfl):P:=h
theorem eT(h:P:=by rw[<-Wb.o];exact Kf):P:=h
theorem eU(h:P:=by have:=Lx.o.size;simp;omega):P:=h
theorem fW(h:P:=by rw[<-hn];exact BB _ _ _ (by omega)):P:=h
theorem bp(h:P:=by rw[jY (0,0) tT];rfl):P:=h
theorem aC(h:P:=by rw[jY (0,0) tR];rfl):P:=h
theorem dK(h:P:=by have:=PG.o;have:=Le.o;have:=HQ.o;omega):P:=h
theorem fX(h:P:=by have:=OV.o;have:=PG.o;have:=Le.o;have:=HQ.o;simp;omega):P:=h
theorem cQ(h:P:=by rw[<-Kv,<- PH];simp):P:=h
theorem bX(h:P:=by rw[LX];rfl):P:=h
theorem bY(h:P:=by rw[Nb];rfl):P:=h
theorem bZ(h:P:=by rw[hk];rfl):P:=h
theorem cR(h:P:=by rw[QC.o];exact HF.o):P:=h
theorem eV(h:P:=by rw[<-LO];exact kg w _):P:=h
theorem fY(h:P:=by rw[<-SA];exact below_drewN (jV.alloc jU _) 1):P:=h
theorem aT(h:P:=by simpa using fun e=>Ow e.symm):P:=h
theorem eW(h:P:=by rw[jY (0,0) Xk.o];rfl):P:=h
theorem eX(h:P:=by simpa [Value.ownBlock]using q):P:=h
theorem fZ(h:P:=by simp[kAt,List.getD_eq_getElem?_getD]):P:=h
theorem dL(h:P:=by rw[c1];decide):P:=h
theorem eY(h:P:=by simpa using h.xne vl (by simp)):P:=h
theorem eZ(h:P:=by simpa [World.setCell]using h.xlt):P:=h
theorem e7(h:P:=by simpa [World.setCell]using h.ble):P:=h
theorem dM(h:P:=by rw[World.alloc_size];omega):P:=h
theorem cp(h:P:=by simp[Value.ownBlock]at hg):P:=h
theorem ga(h:P:=by rw[h j (by rw[sg];exact hj)];simp[pA]):P:=h
theorem gd(h:P:=by rw[h j (by rw[rh];exact hj)];simp[pG]):P:=h
theorem dN(h:P:=by rw[jY (0,0) b2];rfl):P:=h
theorem e8(h:P:=by rw[jY (0,0) b1];rfl):P:=h
theorem cq(h:P:=by simp[sj]):P:=h
theorem fe(h:P:=by have e2:xb=g:=e;rw[e2];rfl):P:=h
theorem gf(h:P:=by rw[<-Ro];unfold evB;by_cases h:M%2=0 <;> simp[h] <;> omega):P:=h
theorem gh(h:P:=by rw[<-Ml];unfold odB;by_cases h:M%2=1 <;> simp[h] <;> omega):P:=h
theorem bq(h:P:=by simp[rV]):P:=h
theorem cT(h:P:=by rw[k];decide):P:=h
theorem bG(h:P:=by simp[pt,Nd]):P:=h
theorem ff(h:P:=by rw[jY (0,0) h.box];rfl):P:=h
theorem fg(h:P:=by rw[jY (0,0) hb.res];rfl):P:=h
theorem cU(h:P:=by rw[<-Kv];exact(jV).alloc jU _):P:=h
theorem dO(h:P:=by rw[<-Kv];exact kg w _):P:=h
theorem fh(h:P:=by rw[HM.o];exact Wb0):P:=h
theorem fm(h:P:=by rw[<-RW,<- PH];simp):P:=h
theorem dP(h:P:=by have:=(r2.lt j e).1;have:=h.lt.1;simp at q;omega):P:=h
theorem dQ(h:P:=by rw[mO];exact h.fz j):P:=h
theorem dR(h:P:=by simpa [World.setCell]using h.lt.2):P:=h
theorem fo(h:P:=by rw[hc]at q;simp at q):P:=h
theorem fp(h:P:=by rw[<-hr];exact vj ab base a V.1 V.2 0 255 false w0 Mo.o TF.o (by decide) hp):P:=h
theorem fq(h:P:=by unfold oS;split <;> rfl):P:=h
theorem dS(h:P:=by have:=HP.o;omega):P:=h
theorem gj(h:P:=by rw[<-L8];exact⟨rfl,rfl,rfl,jU,fun _ _=>rfl⟩):P:=h
theorem ft(h:P:=by have:=OJ.o.1;rw[HN.o]at this;exact this):P:=h
theorem gl(h:P:=by have h1:=Uy.o;have h2:=Wg8.o;rw[Nat.sub_zero];omega):P:=h
theorem fu(h:P:=by rw[MZ.o]at q;unfold liC at q;simp at q):P:=h
theorem dT(h:P:=by simp[rtL]at h):P:=h
theorem cV(h:P:=by simpa using c):P:=h
theorem aD(h:P:=by rw[w'];decide):P:=h
theorem dU(h:P:=by simpa using c2):P:=h
theorem gm(h:P:=by unfold pB at hg⊢;rw[lN,ml]at hg;exact hg):P:=h
theorem fw(h:P:=by unfold pe;simpa using c):P:=h
theorem fy(h:P:=by simp at Lg⊢;omega):P:=h
theorem cW(h:P:=by unfold pe;simp;omega):P:=h
theorem gn(h:P:=by unfold pB at hg⊢;rw[kZ,lN,ml]at hg;exact hg):P:=h
theorem dV(h:P:=by simpa [ng]using hf):P:=h
theorem dW(h:P:=by simpa using Kl):P:=h
theorem fA(h:P:=by have:=hf.lt;omega):P:=h
theorem fB(h:P:=by have e2:=kp e;have:=ht.free.lt;omega):P:=h
theorem fC(h:P:=by have e2:=kp e;omega):P:=h
theorem fD(h:P:=by have:=(Wt g hg).1;omega):P:=h
theorem fE(h:P:=by show 1024<=1024/\1024<=maxLen;unfold maxLen;omega):P:=h
theorem cX(h:P:=by simp[go_sem]):P:=h
theorem br(h:P:=by have:=HN.o;omega):P:=h
theorem fF(h:P:=by simp[World.setCell];exact j8 h.lt.2 (j8 hb.size hg.size)):P:=h
theorem gp(h:P:=by rw[<-Kv];exact(jV.alloc jU _).alloc (by simp) _):P:=h
theorem fG(h:P:=by have h1:=Wr2.o;have h2:=Pd.o;omega):P:=h
theorem fH(h:P:=by have:=Kw.o;simp;omega):P:=h
theorem fI(h:P:=by rw[<-L8];exact Qm.o.over (below_drewN jV nq)):P:=h
theorem fJ(h:P:=by rw[<-L8];exact HO.o.kept (fun _ _ _=>rfl)):P:=h
theorem gq(h:P:=by have:=qB (T:=T) (i:=0) (by have:=HN.o;omega) (by rw[Q9,hq];decide) Q8.o;rw[HN.o]at this;omega):P:=h
theorem aU(h:P:=by rw[Ot.o.2.1];decide):P:=h
theorem dX(h:P:=by unfold kAt;rw[Pk]):P:=h
theorem gu(h:P:=by obtain⟨ya,yn,yc,h1,h2,h3,h4⟩:=hh;exact⟨_,h1,ya,yn,yc,rfl,h2,h3,h4⟩):P:=h
theorem fK(h:P:=by rw[jY (0,0) Mn];rfl):P:=h
theorem McS(h:P:=by
 refine⟨j+1,bH,ao,MT.o,?_⟩;rw[KF.o];exact Wc.o):P:=h
theorem McT(h:P:=by
 show (3:Nat)=K;rw[<-U8.o];unfold rD;rw[HN.o];simp[H8.o,S0.o,R9.o,oU]):P:=h
theorem Mab(h:P:=by
 have Xm:=oP (BS wr);go_wp2_with (first| (go_at_call 131;refine Xm.o.mono ?_;rintro e w2 ⟨tb,rfl,QK,RB,ME,KQ⟩));have YQ:=oP (And.intro ME (And.intro KQ RB));clear ME KQ QK RB Xm;go_loopw [6] (fun x wr=>∃j:Nat,j<=109/\x=.int .i64 (j:Int)/\(∀q,q<j->oQ (pa.getD q ent0).2.2.1≠s.data.toList)/\Below w2.heap.size w2 wr) (fun x _=>109-(intOf x).toNat)
 case atStart=>exact⟨0,j4,rfl,fun q hq=>absurd hq (lH _),jV⟩
 case round=>
  obtain⟨j,hj,rfl,K0,hB⟩:=hrel;have LM:=oP K0;have HB:=oP hB;by_cases Kf:j<109
  ·have K6:(j:Int)<109:=by omega
   obtain⟨v,_,_,c2,_⟩:=(YQ.o.1.later hB) j (by rw[xp];exact Kf);obtain⟨X,hX⟩:=Zg0 ((⟨(pa.getD j ent0).2.2.1.toArray⟩:ByteArray));rw[hX]at c2
   have Xn:X.size<=4000000:=by
    rw[<-hX];have:=Kb j;have e:(⟨(pa.getD j ent0).2.2.1.toArray⟩:ByteArray).size=(pa.getD j ent0).2.2.1.length:=lJ;omega
   have OU:=oP (Ab X Xn wr);have Xo:X.data.toList=(pa.getD j ent0).2.2.1:=by rw[<-hX]
   rw[Xo]at OU;obtain⟨Y,hY⟩:=Zg0 (txt (oQ (pa.getD j ent0).2.2.1));rw[hY]at OU;clear K0 hB hX Xn Xo;by_cases he:oQ (pa.getD j ent0).2.2.1=s.data.toList
   ·have hb:(Y.toList==s.toList)=true:=AM (by rw[<-hY,vW];exact he)
    have HT:Hid (V=true):=by
     show V=true;rw[<-HV.o];unfold qt
     have:(pa.any fun e=>oQ e.2.2.1==s.data.toList)=true:=by
      rw[mj];refine⟨pa[j]'(by rw[xp];exact Kf),kC _,?_⟩;rw[<-he,jZ,jX (by rw[xp];exact Kf)];simp
     rw[this];simp
    clear he hY;go_wp2_with (first| (go_at_call 126;refine OU.o.mono ?_;rintro e w3 ⟨rfl,KH⟩));go_ret;refine⟨cY,?_⟩;have b1:=Np.o.trans (YQ.o.2.1.mono Np.o.size);have b2:=b1.trans (HB.o.mono b1.size);exact b2.trans (KH.mono b2.size)
   have hb:(Y.toList==s.toList)=false:=wS (by rw[<-hY,vW];exact he);have HE:=oP he;have HJ:=oP Kf;clear he hY;go_wp2_with (first| (go_at_call 126;refine OU.o.mono ?_;rintro e w3 ⟨rfl,KH⟩;have Mi:=oP KH;clear KH));go_roundw
   case rel=>
    refine⟨j+1,bH,ao,fun q hq=>?_,HB.o.trans (Mi.o.mono HB.o.size)⟩;by_cases e:q=j
    ·rw[e];exact HE.o
    exact LM.o q ae
   case measure=>have:=HJ.o;simp[intOf];omega
  have K6:¬(j:Int)<109:=ae
  have HT:Hid (V=false):=by
   show V=false;rw[<-HV.o];unfold qt;rw[YP.o,VO.o,Ey (fun q hq=>?_)]
   ·rfl
   have Vu4:q<109:=by rw[<-xp];exact hq
   have:=LM.o q ae;rw[jZ,jX hq]at this;simpa using this
  clear K0 hB;go_wp2;go_ret;refine⟨cY,?_⟩;have b1:=Np.o.trans (YQ.o.2.1.mono Np.o.size);exact b1.trans (HB.o.mono b1.size)):P:=h
theorem Mac(h:P:=by
 have UJ:Hid (∀w',Calls prog 89 #[.int .i64 (E:Int),.int .i64 (P.1:Int)] w' fun e MB=>e=.returned (.int .i64 (oU E P.1:Int))/\MB=w'):=fun w'=>ue _ _ w'
 have XH:=oP Kf;rw[o0]at x7;obtain⟨M,hM⟩:=Zg0 ((x.ops.getD q op0).e.length);rw[hM]at o3 HV;clear Mc Ps Ph PC UN Ml o4 LN Mf hV MH hP hM Kf hq PK o0 x0 x1 x3 x4 x5 x6;go_wp2_with fail;refine HV.o.mono ?_;rintro e w3 ⟨rfl,LF⟩;rw[LF];clear LF;go_wp2_with fail;refine Ti.o.mono ?_;rintro e w5 ⟨rfl,Tj,Oq⟩;have XE:=oP Oq;have Q1:=oP (Rq.o.trans Tj);have Wo8:Hid (w5.heap[xb]?=some (liC lb nm wh (x.ent.1:Int) (x.ent.2.1:Int) ⟨x.ent.2.2.1.toArray⟩ (.slice ea en ec) (.slice oa N oc))):=(Tj.block xb (oV Vv.o) R8.o.1 (.inr fun cs fr q=>by rw[Vv.o]at q;unfold liC at q;simp at q)).trans Vv.o;clear Tj Oq x2 x7 o3;go_wp2_with fail;refine(UJ.o _).mono ?_;rintro e w6 ⟨rfl,L6⟩;rw[L6];clear L6;go_wp2_with fail;go_roundw
 case rel=>exact⟨_,q+1,P.2,rfl,ao,XH.o,KF.o.1,XE.o,KF.o.2.1,Q1.o,Wo8.o,KF.o.2.2⟩
 case measure=>have:=XH.o;simp[intOf];omega):P:=h
theorem Mae(h:P:=by
 have Zf:((N:Int)==40)=true:=by rw[Nx];rfl
 clear Nx;go_wp2_with fail;refine Wo2.o.mono ?_;rintro e w6 ⟨rfl,L6⟩;rw[L6];clear L6;have HK:Hid ((3:Nat)=K):=McT;go_wp2_with (at_builtin;refine kH _ rfl _ _ 81 rfl base 233 OF _ 2 24 underlying81 hi KJ KC Ky rfl ah _ _ _ rfl (Ki.o.alloc _) ⟨w.heap.size,0,none⟩ 1 1 [.string s,.int .i64 z] rfl rfl (xu _ _ _ _) (by intro u hu;simp at hu;rcases hu with rfl|rfl <;> rfl) ak ae ai ?_;intro v2 wn Kc Kg _ Kj;obtain⟨va,vc,rfl⟩:=rP Kc;have HA:=oP (H.o.name dY (jV.alloc jU _) HZ.o dZ ed HL.o);have g0:=(ku (a:=⟨ab,0,none⟩) HA.o.1).trans f0;have g1:=(jW (a:=⟨ab,0,none⟩) HA.o.1).trans c0;clear Kc Kg Kj);go_ret;exact⟨by rw[<-HK.o];rfl,eh⟩):P:=h
theorem Maf(h:P:=by
 have Xk:Hid (acc=R):=by
  have:=KF.o;rw[Ld.o,kX]at this;exact this
 go_wp2_with (first| (at_builtin;refine kH _ rfl _ _ 165 rfl w.heap.size 170 i0 _ 4 40 underlying165 hi KJ KC Ky rfl ah _ _ _ rfl (Ki.o.alloc _) ⟨wr.heap.size,0,none⟩ 1 1 [.int .u8 0,.string ⟨#[]⟩,.int .i64 0,.bool false] rfl rfl (yU _ _ _ _ _ _) (yR _ _ _ _) cv cz aZ ?_;intro v' wn Kc Kg _ _;obtain⟨a',n',c',ev⟩:=rW Kc;subst ev));have NU:Below w.heap.size w wn:=((HB.o).alloc (HB.o).size _).grown Kg aZ (fun k hk=>((Ki.o).lt k hk).1);go_wp2_with fail;go_ret
 have h9:wn.ownsRow w.heap.size 170 4 (.slice a' n' c') (acc.length+1) (se (acc++[endR])):=by
  rw[yQ];exact Kc
 rw[Xk.o]at h9;obtain⟨g,Kd,ev,_⟩:=wG h9 ae;cases ev;exact⟨g,_,rfl,h9,NU⟩):P:=h
theorem Mag(h:P:=by
 have HK:Hid ((4:Nat)=K):=by
  show (4:Nat)=K;rw[<-U8.o];unfold rD;rw[HN.o];simp[H8.o,S0.o,R9.o,oU]
 go_wp2_with (at_builtin;refine kH _ rfl _ _ 81 rfl base 233 OF _ 2 24 underlying81 hi KJ KC Ky rfl ah _ _ _ rfl (Ki.o.alloc _) ⟨w.heap.size,0,none⟩ 1 1 [.string s,.int .i64 z] rfl rfl (xu _ _ _ _) (by intro u hu;simp at hu;rcases hu with rfl|rfl <;> rfl) ak ae ai ?_;intro v2 wn Kc Kg _ Kj;obtain⟨va,vc,rfl⟩:=rP Kc;have HA:=oP (H.o.name dY (jV.alloc jU _) HZ.o dZ ed HL.o);have g0:=(ku (a:=⟨ab,0,none⟩) HA.o.1).trans f0;have g1:=(jW (a:=⟨ab,0,none⟩) HA.o.1).trans c0;clear Kc Kg Kj);go_ret;exact⟨by rw[<-HK.o];rfl,eh⟩):P:=h
theorem Mah(h:P:=by
 have XG:q=N:=ae;have Wg:¬(q:Int)<(N:Int):=ae
 have HE:Hid ((E,a2)=D):=by
  show _=D;rw[<-PC,mY bI];rfl
 have Q4:=oP (Dn x ea en ec oa oc wr (fun e=>by rw[hw]at e;exact absurd e ah) bI);rw[Wb1.o,Rz.o,Zg.o,HN.o,Ta.o]at Q4;unfold liV at Q4;rw[LA]at Q4;clear Mc Ps Ph PC UN Kf hq PK XG;go_wp2_with fail;refine Q4.o.mono ?_;rintro e w5 ⟨rfl,KU⟩;have f1:=(O0.o.below KU).fz 1;have d1:=(O0.o.below KU).c1;have Q5:=oP ((O0.o.below KU).setPl (a.pl+n));have Pf:=oP ((SD.o.trans (Rq.o.trans (AChg.below ab base KU))).trans (AChg.set w5 ab base 1 (.int .i64 ((a.pl+n:Nat):Int))));rw[show ((a.pl+n:Nat):Int)=(a.pl:Int)+(n:Int) from by omega]at Q5 Pf;clear hw LA Q4 KU x0 x1 x2 x3 x4 x5 x6 x7;go_wp2_with fail;go_ret;exact⟨by rw[<-HF.o,<- HE.o];rfl,Pf.o,by rw[<-HF.o,<- HE.o];exact Q5.o⟩):P:=h
theorem Mai(h:P:=by
 clear hu;go_wp2_with (first| (at_builtin;refine kH _ rfl _ _ 32 rfl w.heap.size 5 i0 _ 1 1 underlying32 hi KJ KC Ky rfl ah _ _ _ rfl (Ki.o.alloc _) ⟨wr.heap.size,0,none⟩ 1 1 [.int .u8 (c.toNat:Int)] rfl rfl l8 ax ak ae bJ ?_;intro v' wn Kc Kg _ _;obtain⟨a',n',c',ev⟩:=rW Kc;subst ev));have ZX:=HB.o.size;have NU:Below w.heap.size w wn:=(HB.o.alloc HB.o.size _).grown Kg ai (fun k hk=>(Ki.o.lt k hk).1);go_wp2_with fail;go_roundw
 case rel=>
  refine⟨j+1,a',n',c',bH,rfl,ao,?_,NU⟩;rw[HX.o,show pA ((oQ L).take j++[c])=pA ((oQ L).take j)++[.int .u8 (c.toNat:Int)] by simp[pA]];exact Kc
 case measure=>have:=HJ.o;simp[intOf];omega):P:=h
theorem Maj(h:P:=by
 have HA:=oP (wT pb g Kd T i Kp wr YY.o MY.o HT.o);obtain⟨q,hq⟩:=Zg0 (oR (T.drop i) false);rw[hq]at HA Qw;clear hq;go_wp2_with fail;refine HA.o.mono ?_;rintro e wz ⟨ya,yn,yc,rfl,hP,Ke,hG⟩;have MJ:=oP hP;have Tc:=oP (Y0.o.trans2 hG);have Qb:=oP Ke;have OY:Hid (wz.heap[rb]?=_):=(hG.block rb (oV HOr.o) aw).trans HOr.o;have Pd:=oP (oV HOr.o);clear hP hG Ke HA;obtain⟨⟨o0,o1,o2,o3⟩,fz⟩:=ta OY.o;have Vc8:=fz 0;have Vc9:=fz 1;have Vd0:=fz 2;have Vd1:=fz 3;clear fz;go_wp2_with fail;refine kf (kY rfl _ _ rb 174 _ (0,0) _ rfl (j7 (j7 (j7 (j7 OY.o)))) underlying174 rfl aj) rfl ?_;have hX:=Qw.o;subst hX;unfold rG;exact⟨ya,yn,yc,rfl,pC (za Qb.o Pd.o _ _ _ _) Y0.o.size,MJ.o.set4 K7 Kg _ _ _ _,tw Tc.o (lZ HS.o) _ _ _ _⟩):P:=h
theorem Mak(h:P:=by
 go_wp2_with (at_builtin;refine kH _ rfl _ _ 81 rfl base 233 OF _ 2 24 underlying81 hi KJ KC Ky rfl ah _ _ _ rfl (Ki.o.alloc _) ⟨w.heap.size,0,none⟩ 1 1 [.string s,.int .i64 z] rfl rfl (xu _ _ _ _) (by intro u hu;simp at hu;rcases hu with rfl|rfl <;> rfl) ak ae ai ?_;intro v2 wn Kc Kg _ Kj;obtain⟨va,vc,rfl⟩:=rP Kc;have HA:=oP (H.o.name dY (jV.alloc jU _) HZ.o dZ ed HL.o);have g0:=(ku (a:=⟨ab,0,none⟩) HA.o.1).trans f0;have g1:=(jW (a:=⟨ab,0,none⟩) HA.o.1).trans c0;clear Kc Kg Kj);go_ret;exact⟨by rw[<-HK.o];rfl,eh⟩):P:=h
theorem Mam(h:P:=by
 go_enter func213,ntmps213;go_wp2_with fail;refine HF.o.mono ?_;rintro e w1 ⟨rfl,Kh⟩;have hz:=Kh.size;have K5:=(HP.o.kept (Kh.mono KR)).kept (jV.alloc (j8 KR hz) (.cells #[.int .i64 0,.int .i64 0] 324));have d0:=K5.c0;have d1:=K5.c1;have d2:=K5.c2;have H1:=oP K5;have MG:=Kh.alloc hz (.cells #[.int .i64 0,.int .i64 0] 324);clear K5;go_wp2_with fail;refine(HH.o _ MG).mono ?_;rintro e w2 ⟨rfl,Km⟩;go_wp2_with fail;refine(vB _ B pb b line ts (H1.o.kept (Km.mono H1.o.le))).mono ?_;rintro e w3 ⟨rfl,rfl⟩;unfold pj;go_wp2_with fail;exact⟨rfl,by simp[pj],MG.trans (Km.mono MG.size)⟩):P:=h
theorem Man(h:P:=by
 have hr:(48:Int)<=(c.toNat:Int)/\(c.toNat:Int)<=57:=by unfold isD at Tz;simp at Tz;omega
 have Pt:=hr.1;have Mn:=hr.2;have Vc4:(c.toNat:Int)-48=(v:Int):=by rw[<-hv];unfold sF;rw[jS ae];omega
 have RW:IntKind.u8.wrap (v:Int)=(v:Int):=aL;have Vt5:¬(97:Int)<=(c.toNat:Int):=ae;clear LH LR Tz hv hm hr hg Kf K2 Oc tR tT;go_wp2_with (first| (go_at_call 128;refine OE.o.mono ?_;rintro e w1 ⟨rfl,rfl⟩));go_roundw
 case rel=>exact McS
 case measure=>have:=HJ.o;simp[intOf];omega):P:=h
theorem Mao(h:P:=by
 clear hv;go_enter func205,ntmps205;go_wp2_with (first| (go_at_call 244;refine(HP.o _).mono ?_;rintro e w1 ⟨rfl,rfl⟩)|(go_at_call 245;refine(HT.o _).mono ?_;rintro e w1 ⟨r,rfl,hb,hr⟩)|(go_at_call 246;refine(HI.o _).mono ?_;rintro e w2 ⟨rfl,Km⟩));by_cases hm:(65536:Int)<(v:Int)
 ·go_region
  all_goals
   go_wp2;go_ret2;exact⟨by rw[show min (v:Int) 65536=65536 by omega];rfl,(hb.trans (Km.mono hb.size)).drew⟩
 go_region
 all_goals
  go_wp2;go_ret2;exact⟨by rw[show min (v:Int) 65536=(v:Int) by omega];rfl,(hb.trans (Km.mono hb.size)).drew⟩):P:=h
theorem Mar(h:P:=by
 subst Wi0;go_enter func67,ntmps67;go_wp2_with (first| (go_at_call 111;refine HL.o.mono ?_;rintro e w1 ⟨rfl,Kh⟩;have KK:=oP Kh;clear Kh)|(go_at_call 30;refine(HD.o _ KK.o).mono ?_;rintro e w2 ⟨rfl,Km⟩;have Lo:=oP (KK.o.trans (Km.mono KK.o.size));clear Km)|(go_at_call 112;refine(HX.o _).mono ?_;rintro e w3 ⟨rfl,Kq⟩));go_ret;have e2:=HB.o.trans (Lo.o.mono HB.o.size);exact⟨rfl,e2.trans (Kq.mono e2.size)⟩):P:=h
theorem Mas(h:P:=by
 by_cases hf:f=⟨#[]⟩
 ·have ye:(f.toList==[])=true:=tG hf;have hz:(decide (f=⟨#[]⟩/\s=0))=decide (s=0):=by simp[hf]
  rw[hz]at HX;clear hz hf;go_enter func134,ntmps134;go_wp2;go_ret;exact⟨cB,HB.o _⟩
 have ye:(f.toList==[])=false:=po hf;have hz:(decide (f=⟨#[]⟩/\s=0))=false:=by simp[hf]
 rw[hz]at HX;clear hz hf;go_enter func134,ntmps134;go_wp2;go_ret;exact⟨cB,HB.o _⟩):P:=h
theorem Mat(h:P:=by
 clear LH LR Wa3 hg K2 Oc;go_wp2_with (first| (go_at_call 128;refine OE.o.mono ?_;rintro e w1 ⟨rfl,rfl⟩)|(go_at_call 188;refine Wa2.o.mono ?_;rintro e w1 ⟨rfl,rfl⟩));refine kf (kY rfl _ _ w.heap.size 170 _ (0,0) _ rfl (j7 (j7 (j7 (j7 tR)))) underlying170 rfl aj) rfl ?_;rw[Vr.o];exact⟨rfl,(((Up.o.b.setCell jU _).setCell jU _).setCell jU _).setCell jU _⟩):P:=h
theorem Mau(h:P:=by
 have WK3:=oP (Ep nm.data.toList os x (by rw[HN.o];exact HJ.o) HF.o);clear K2;go_wp2_with fail;go_roundw
 case rel=>
  refine⟨k+1,an,ao,fun q hq=>?_,ON.o.trans ((Pe.o.trans (R2.o.mono Pe.o.size)).mono ON.o.size)⟩;rcases lQ q k with h|h
  ·exact LM.o q h
  have e:q=k:=ae;rw[e,HX.o];exact WK3.o
 case measure=>have:=Kw.o;simp[intOf];omega):P:=h
theorem Mav(h:P:=by
 rw[hG]at MA Qa;have Mj:=oP (And.intro Qa tT);clear Og KD eL hG Qa tT tR Kf ej Oc;go_wp2;refine kf (kY rfl _ _ w.heap.size 170 _ (0,0) _ rfl (j7 (j7 (j7 (j7 Mj.o.1)))) underlying170 rfl aj) rfl ?_;rw[MA.o];exact⟨rfl,((((Up.o.b.setCell eo _).setCell jU _).setCell jU _).setCell jU _).setCell jU _⟩):P:=h
theorem Maw(h:P:=by
 have Lw:=LV.o.kept KM LW N9;go_roundw
 case rel=>
  refine⟨_,Mv,_,Lw,?_,Mc.ext (fun l'=>?_),MP.o.grown KM ep (fun j hj=>by cases hj;exact jU)⟩
  ·have:=vk n (rq left x.data.toList);have:=Ln.o.2;omega
  rw[<-KF.o.1 l'];unfold rI;rw[jT bt,KF.o.2,HV.o]
 case measure=>
  rw[Lw.left_eq,Ln.o.1];exact Ln.o.2):P:=h
theorem Max(h:P:=by
 apply List.ext_getElem?;intro j;rw[kS];unfold lAt;rw[kS];by_cases hj:j<(qZ c).length
 ·have hk:j<(o9 c).length:=by rw[tA];exact hj
  rw[jX hj,nk hk];have ht:=h.ps _ (kC hj)
  have hg:(o9 c).getD j 0=(qa (qZ c)[j]).toNat:=by
   unfold o9;rw[jZ,kS,jX hj];rfl
  simp only[nC,opn,opA,lH,mB,hg,ht.2.2.1]
 rw[mg ae,mg (by rw[mA,tA];omega)];rfl):P:=h
theorem May(h:P:=by
 subst h0;have hb:=(nY w.heap.size w).alloc jU (.cells #[.int .u8 33,.string ⟨#[]⟩,.int .i64 0,.bool false] 170);clear Xj hL hD hl PQ;go_enter func129,ntmps129;go_wp2;refine kf (kY rfl _ _ w.heap.size 170 _ (0,0) _ rfl (kt af |>.trans (kg w _)) underlying170 rfl aj) rfl ?_;rw[Vr.o];exact⟨rfl,hb.alloc af _⟩):P:=h
theorem Maz(h:P:=by
 have b5:((tj.kind.toNat:Int)==0)=false:=cZ
 have HF:Hid (none=R):=by
  have:=HX.o;rw[Sc.o,Me,jS (fun e=>Mu (Pm.symm.trans e.2))]at this;exact this
 clear HX Sc Pj Me Pk Pm Mu;go_region
 all_goals
  go_wp2_with fail;exact uY Na.o HF.o _ _ _ _ _ _ _ _ rfl rfl rfl):P:=h
theorem MaA(h:P:=by
 have HF:Hid ((E2,oS a x)=R):=by
  show (E2,oS a x)=R;rw[<-HR.o];unfold oT;rw[Qx.o,Tk.o,jS au,jT au,jS au,jT hf,NO.o]
 have b1:((V.2:Int) != 0)=true:=ai;clear hf hw LA;go_wp2_with fail;go_ret;exact⟨aM,Tl.o,by rw[<-HF.o];exact Qe.o⟩):P:=h
theorem MaB(h:P:=by
 have Ld:=oP e;rw[hx]at MW;have HX:=oP MW;clear MW hx e Re;go_wp2_with fail;refine HX.o.mono ?_;rintro e w3 ⟨v,rfl,KO,LK,Kr⟩;have H3:=oP (And.intro (pC KO MV.size) (And.intro LK (MV.trans2 Kr)));clear KO LK Kr;go_wp2_with fail;go_ret2;rw[Ld.o];exact⟨_,rfl,H3.o.1,H3.o.2.1,H3.o.2.2⟩):P:=h
theorem MaC(h:P:=by
 clear MO;go_wp2;go_roundw
 case rel=>
  refine⟨_,Mv,n,LV.o,by have:=Ln.o.2;omega,Pz.o.ext (fun l'=>?_),MP.o⟩;rw[<-KF.o.1 l'];unfold rI;rw[jS bt,jS bt,jS bt]
 case measure=>
  rw[LV.o.left_eq,Ln.o.1];exact Ln.o.2):P:=h
theorem MaD(h:P:=by
 have HF:Hid (none=R):=by
  have:=HX.o;rw[Sc.o,Me,jS (fun e=>by cases e.1)]at this;exact this
 rw[Me]at c2;have WT9:w8.cell? ⟨pb,2,none⟩=some (.bool true):=c2;clear HX Sc Pj Me c2;go_region
 all_goals
  go_wp2_with fail;exact uY Na.o HF.o _ _ _ _ _ _ _ _ rfl rfl rfl):P:=h
theorem MaE(h:P:=by
 obtain⟨z0,z1,z2,zf⟩:=wH Ri.im;have f0:=zf 0;have f1:=zf 1;have f2:=zf 2;have QV:w.heap.size<=rb:=ae;have VH9:((E:Int)==0)=false:=ai;have VI0:¬(E:Int)=0:=ae;clear hE Ri SG zf;go_wp2_with fail;exact AV WU8.o U0.o.im U0.o.bw QV rfl rfl rfl rfl):P:=h
theorem MaF(h:P:=by
 have hn:oZ x=x:=by unfold oZ;rw[jS];omega
 have HN:=oP hn;clear hn;go_wp2;go_roundw
 case rel=>
  refine⟨k+1,ae,ao,fun j hj=>?_,H2.o,hb,Ou⟩;by_cases e:j=k
  ·subst e;rw[HK.o,HN.o];exact ck
  rw[HS.o j e];exact H1.o j hj
 case measure=>simp[intOf];omega):P:=h
theorem MaG(h:P:=by
 exact⟨_,Bq (c2:=w.heap.size) (c3:=w.heap.size+1) (c4:=w.heap.size+1+1) rfl rfl rfl Wa8,⟨ho.trans Kq.os,WS3.trans Kq.tape,WS4.trans Kq.output,j8 Kq.size hz,fun k MO=>(hk k (by have:=Kq.size;omega) ae ae ae).trans (Kq.block k MO)⟩,rfl⟩):P:=h
theorem MaH(h:P:=by
 have hx:0<b.size:=ae;have Kf:=(b[0]).toNat_lt;have h1:(b[0].toNat:Int)<=255:=ae;go_enter func98,ntmps98;go_wp2_with fail;refine(AI (b[0].toNat:Int) ae ae _).mono ?_;rintro e w1 ⟨rfl,rfl⟩;go_wp2;go_ret;exact⟨qY (sG _ _),rfl⟩):P:=h
theorem MaI(h:P:=by
 go_wp2_with fail;refine H1.o.mono ?_;rintro e w1 ⟨rfl,h1,g1⟩;have H2:=oP (yA w1 yb base code add bh _ n h1 ae);clear h1;go_wp2_with fail;refine H2.o.mono ?_;rintro e w2 ⟨rfl,h2,g2⟩;go_wp2_with fail;go_end0;exact⟨rfl,h2,g1.trans g2⟩):P:=h
theorem MaJ(h:P:=by
 go_wp2_with fail;refine H1.o.mono ?_;rintro e w1 ⟨rfl,h1,g1⟩;have H2:=oP (Er w1 yb base code add bh _ n h1 ae);clear h1;go_wp2_with fail;refine H2.o.mono ?_;rintro e w2 ⟨rfl,h2,g2⟩;go_wp2_with fail;go_end0;exact⟨rfl,h2,g1.trans g2⟩):P:=h
theorem MaK(h:P:=by
 refine⟨?_,?_,?_⟩
 ·rw[<-P7];exact(kt af).trans (kg w _)
 ·rw[<-P7];have:=kg (w.alloc (.cells xN 170)) (.cells #[.int .u8 110,.string s,.int .i64 0,.bool false] 170);simpa using this
 rw[<-P7];exact(jV.alloc jU _).alloc af _):P:=h
theorem MaL(h:P:=by
 have Wf1:=VI.size;have NQ:=pC NP (base':=w.heap.size) ai;have HZ:=oP (And.intro NQ Mt);clear NP Pn QO NQ Mt m0 m1;go_wp2_with fail;go_ret2;rw[Ld.o];exact⟨_,rfl,HZ.o.1,Wf0.o.kept (HZ.o.2.mono RF),VI.trans2 (sR HZ.o.2)⟩):P:=h
theorem MaM(h:P:=by
 match k,h with
 |0,_=>rfl
 |1,_=>rfl
 |2,_=>rfl
 |3,_=>rfl
 |4,_=>rfl
 |5,_=>rfl
 |6,_=>rfl
 |7,_=>rfl
 |8,_=>rfl
 |9,_=>rfl
 |10,_=>rfl
 |11,_=>rfl
 |12,_=>rfl
 |13,_=>rfl
 |14,_=>rfl
 |15,_=>rfl
 |16,_=>rfl
 |n+17,h=>exact absurd h ae):P:=h
theorem MaN(h:P:=by
 rw[e];rw[ha]at HT;go_enter func205,ntmps205;go_wp2_with (first| (go_at_call 244;refine(HP.o _).mono ?_;rintro e w1 ⟨rfl,rfl⟩)|(go_at_call 245;refine(HT.o _).mono ?_;rintro e w1 ⟨r,rfl,hb,hr⟩));go_ret2;exact⟨rfl,hb⟩):P:=h
theorem MaO(h:P:=by
 rw[e];go_enter func205,ntmps205;go_wp2_with (first| (go_at_call 244;refine(HP.o _).mono ?_;rintro e w1 ⟨rfl,rfl⟩)|(go_at_call 245;refine(HT.o _).mono ?_;rintro e w1 ⟨r,rfl,hb,hr⟩));go_ret2;exact⟨rfl,hb⟩):P:=h
theorem MaP(h:P:=by
 have N4:Below w.heap.size w wr:=(((nY w.heap.size w).alloc jU _).alloc af _).trans (hb.mono ae);repeat (first| exact N4|refine Below.alloc ?_ ai _|refine n7 ?_ af _)):P:=h
theorem MaQ(h:P:=by
 go_enter func205,ntmps205;go_wp2_with (first| (go_at_call 244;refine(HP.o _).mono ?_;rintro e w1 ⟨rfl,rfl⟩)|(go_at_call 245;refine(HT.o _).mono ?_;rintro e w1 ⟨r,rfl,hb,hr⟩));go_ret2;exact⟨rfl,hb⟩):P:=h
theorem MaR(h:P:=by
 intro j u hj;match j,hj with
 |0,hj=>simp at hj;subst hj;simp[Addr.add]
 |1,hj=>simp at hj;subst hj;simp[Addr.add]
 |2,hj=>simp at hj;subst hj;simp[Addr.add]
 |3,hj=>simp at hj;subst hj;simp[Addr.add]):P:=h
theorem MaS(h:P:=by
 go_wp2_with fail;refine(vB _ B pb b line ts ((HP.o.kept (Kh.mono KR)).kept (jV.alloc (j8 KR hz) _))).mono ?_;rintro e w2 ⟨rfl,rfl⟩;unfold pj;go_wp2_with fail;exact⟨rfl,by simp[pj],Kh.alloc hz _⟩):P:=h
theorem MaT(h:P:=by
 have Ld:=oP e;rw[ht]at Lh;have X8:=oP Lh;clear Lh MC ht e;go_wp2_with fail;refine X8.o.mono ?_;rintro e w3 ⟨rfl,Kr⟩;unfold pj;go_wp2_with fail;rw[Ld.o];exact⟨rfl,rfl,(Kg.trans2 KM).trans2 Kr⟩):P:=h
theorem MaU(h:P:=by
 subst e;have h1:=hM.c1;rw[kM _ _ 1 _ _ (0,0) hc]at h1;cases hx:(os.map fun x=>Value.string ⟨x.toArray⟩)[1]? with
 |none=>simp[hx]at h1
 |some y=>
  obtain⟨z,_,rfl⟩:=lf.1 (lT hx);simp[hx]at h1):P:=h
theorem MaV(h:P:=by
 clear hc;go_wp2_with (refine HC.o.mono ?_;rintro e w1 ⟨rfl,rfl⟩);go_roundw
 case rel=>exact⟨_,rfl,af,aN,by rw[HT.o,HA.o]⟩
 case measure=>simp[ByteArray.size_extract];omega):P:=h
theorem MaW(h:P:=by
 go_roundw
 case rel=>
  refine⟨j+1,ae,ao,fun q hq=>?_,by first| rfl|trivial⟩;by_cases e:q=j
  ·rw[e,HG.o];exact HX.o
  exact HA.o q ae
 case measure=>simp[intOf];omega):P:=h
theorem MaX(h:P:=by
 have hw:Region.wanted o (yielded ops a.tmps)=true:=da;rw[jT hw];unfold Oper.wp;rw[KZ,T0l];refine hc.mono ?_;intro e w' h;obtain⟨ch,rfl,hq⟩:=hR e w' h;exact hq):P:=h
theorem MaY(h:P:=by
 have Ld:=oP e;rw[hx]at MW;have HX:=oP MW;clear MW hx e Re;go_wp2_with fail;refine HX.o.mono ?_;rintro e w3 ⟨rfl,Kr⟩;unfold pj;go_wp2_with fail;rw[Ld.o];exact⟨rfl,rfl,MV.trans2 Kr⟩):P:=h
theorem MaZ(h:P:=by
 clear Le LR hO;go_wp2_with (first| (go_at_call 171;refine Mg.o.mono ?_;rintro e w5 ⟨rfl,Lp⟩));have hb:=HB.o.trans (Lu.o.mono HB.o.size);exact⟨rfl,hb.trans (Lp.mono hb.size),rfl⟩):P:=h
theorem Ma0(h:P:=by
 have h5:=Wh2.o rfl;subst h5;rcases htk with h'|h'
 ·rw[h']at V4;exact absurd V4.o (by simp[vg])
 have:pd t.text.data.toList=false:=by unfold pd;rw[h'];rfl
 rw[this]at KA;cases KA):P:=h
theorem Ma1(h:P:=by
 refine(Tryz.strings_Cut s ⟨#[32]⟩ m w ae hm).mono ?_;rintro e w1 ⟨rfl,n,rfl⟩;rw[show (⟨#[32]⟩:ByteArray).data.toList=[32] from rfl,hcut];exact⟨rfl,below_drewN jV _⟩):P:=h
theorem Ma2(h:P:=by
 clear hf hw LA;go_wp2_with fail;refine(H6.o _).mono ?_;rintro e w5 ⟨rfl,Lj⟩;rw[Lj];clear Lj;go_wp2_with fail;go_ret;exact⟨aM,Tl.o,by rw[<-HF.o];exact Qe.o⟩):P:=h
theorem Ma3(h:P:=by
 refine⟨(kk wr ⟨w.heap.size+1,2,none⟩ w.heap.size _ er).trans tR,j7 tT,Up.o.b.setCell eo _⟩):P:=h
theorem Ma4(h:P:=by
 rw[jS ah,kX]at MN;have SN:=oP MN;clear MN;go_wp2;go_roundw
 case rel=>exact⟨k+1,ae,ao,by rw[SN.o];exact Ki.o,Xf.o⟩
 case measure=>simp[intOf];omega):P:=h
theorem Ma5(h:P:=by
 have hb:wn.heap[bb]?=w.heap[bb]?:=by
  rw[Kg.block bb ai (fun e=>by have:=(Ke.lt bb e.symm).1;omega)];exact kt hw
 exact⟨(jW hb).trans z0,(ku hb).trans z1⟩):P:=h
theorem Ma6(h:P:=by
 refine np hg fun K' XV=>?_
 obtain⟨w',KZ,r1,r2⟩:=Kc.store (val:=val) K ht hn KN;unfold Oper.wp;simp[execOp,NF,hm,hx,hv,KZ,Result.andThen];exact XV _ _ (hK w' r1 r2)):P:=h
theorem Ma7(h:P:=by
 have O1:=Qu.o TZ;have d3:(p:Int)<=(E:Int):=ae;have d4:(E:Int)<=(bc:Int):=ae;have d5:¬bc=p:=ae;clear Qu hE TZ;go_wp2;go_ret;exact⟨rfl,HB.o⟩):P:=h
theorem Ma8(h:P:=by
 have h1:=(HP.o.below (below_drewN jV n)).setI (i+1);have h2:=pV (w.drewN n) pb 1 (.int .i64 ((i:Int)+1));exact⟨h1,h2.os,h2.tape,h2.output,h2.size,h2.block⟩):P:=h
theorem Ma9(h:P:=by
 go_wp2_with (go_at_call 150;refine(C2 _ _ _ _ _ _ h0 h1).mono ?_;rintro e w1 ⟨rfl,hb⟩);go_ret;exact⟨qY (sG _ _),(jV.alloc jU _).trans (hb.mono af)⟩):P:=h
theorem Mba(h:P:=by
 go_wp2_with fail;rw[HX.o];refine(AK x hb.1 hb.2 _).mono ?_;rintro e w1 ⟨rfl,Kh⟩;go_wp2;go_ret;exact⟨qY (sG _ _),(jV.alloc jU _).trans (Kh.mono af)⟩):P:=h
theorem Mbb(h:P:=by
 intro j u hj;match j,hj with
 |0,hj=>simp at hj;subst hj;simp[Addr.add]
 |1,hj=>simp at hj;subst hj;simp[Addr.add]
 |2,hj=>simp at hj;subst hj;simp[Addr.add]):P:=h
theorem Mbc(h:P:=by
 have e:=Kg.block sb ai (fun e=>dc);rw[ku (a:=⟨sb,5,none⟩) e,ku (a:=⟨sb,5,none⟩) (kt ai)];exact hc):P:=h
theorem Mbd(h:P:=by
 go_wp2_with fail;go_roundw
 case rel=>exact⟨q+1,by have:=MQ.o;omega,Wo.o,ao,by rw[KF.o],Pz.o,Vi3.o,Vi4.o⟩
 case measure=>have:=Wo.o;simp[intOf];omega):P:=h
theorem Mbf(h:P:=by
 clear NN;go_wp2_with fail;refine Ti.o.mono ?_;rintro e w5 ⟨rfl,Tj,Oq⟩;go_wp2_with fail;go_ret;exact⟨by rw[HG.o];rfl,SD.o.trans Tj,by rw[<-HG.o];exact Oq⟩):P:=h
theorem Mbg(h:P:=by
 have:=kg (w.alloc (.cells #[.int .u8 0,.slice none 0 0,.int .i64 0] 128)) (.cells #[.int .u8 c,.slice none 0 0,.int .i64 0] 128);rwa [xh]at this):P:=h
theorem Mbh(h:P:=by
 have Qp:tmps[p]?.getD undef=.pointer (some ⟨g,0,none⟩):=by simpa using hp
 simp[results,h,Qp,asAddr,run_loadVar_row w g t ty cs fr d hg hu hd hi]):P:=h
theorem Mbi(h:P:=by
 by_cases a1:c.toNat=114
 ·by_cases a2:48<=d.toNat
  ·have a3:¬d.toNat<=55:=fun e=>KA ⟨a1,a2,e⟩
   rw[j9 a3];simp
  rw[j9 a2];simp
 rw[j9 a1];rfl):P:=h
theorem Mbj(h:P:=by
 go_enter func98,ntmps98;go_wp2_with fail;refine(Ic number h0 h1 _).mono ?_;rintro e w1 ⟨rfl,rfl⟩;go_wp2;go_ret;exact⟨qY (sG _ _),rfl⟩):P:=h
theorem Mbk(h:P:=by
 go_wp2_with (refine(HT.o _).mono ?_;rintro e w3 ⟨rfl,Kq⟩);go_ret2;rw[Ld.o];exact⟨rfl,(hb.alloc hz _).trans (Kq.mono ai)⟩):P:=h
theorem Mbl(h:P:=by
 have e:=Kg.block sb ai (fun e=>dc);rw[jW (a:=⟨sb,5,none⟩) e,lO ai];exact hc):P:=h
theorem Mbm(h:P:=by
 rw[<-PC,SC,qS];have e:x.ops[q]'(aA)=x.ops.getD q op0:=by rw[jZ,jX aA];rfl
 rw[e,hV,<- hP];rfl):P:=h
theorem Mbn(h:P:=by
 go_ret;refine⟨_,rfl,Kc,?_⟩;exact((HB.o.1.alloc HB.o.1.size _).grown Kg ai (fun k hk=>by simp[Value.ownBlock]at hk))):P:=h
theorem Mbo(h:P:=by
 rw[e];go_enter func188,ntmps188;go_wp2_with (first| (go_at_call 128;refine HD.o.mono ?_;rintro e w1 ⟨rfl,rfl⟩));go_ret;simp):P:=h
theorem Mbp(h:P:=by
 unfold Oper.wp execOp;simp only[ho,resolve,invoke,builtin,oO,T0a,T0b,T0c,kZ,mZ,hs,hx,hr];exact hK _ _ (h v' w' h2 h3 h5)):P:=h
theorem Mbq(h:P:=by
 rw[oh,oF];have h:s.size=s.data.toList.length:=(kE (xs:=s.data)).symm;rw[h,List.extract_eq_take_drop,lL];rw[mD];exact jU):P:=h
theorem Mbr(h:P:=by
 by_cases a2:48<=d.toNat
 ·exact .inr (.inr ⟨b1,ae,fun e=>KA ⟨a1,a2,ae⟩⟩)
 exact .inr (.inl ⟨b1,ae⟩)):P:=h
theorem Mbs(h:P:=by
 obtain⟨h1,h2|⟨g,Kd,KG,rfl,hg,h3,h4⟩⟩:=h
 ·exact⟨h1,.inl h2⟩
 exact⟨h1,.inr ⟨g,Kd,KG,rfl,hg,(hb g rfl).trans h3,h4⟩⟩):P:=h
theorem Mbu(h:P:=by
 go_wp2;go_roundw
 case rel=>exact⟨j+1,ae,ao,(by first| rfl|trivial)⟩
 case measure=>simp[intOf];omega):P:=h
theorem Mbv(h:P:=by
 have Pq:j<(qZ c).length:=by rw[<-tA];exact hj
 have:=(h.ps _ (kC Pq)).2.2.2;unfold o9;rw[jZ,kS,jX Pq];exact this):P:=h
theorem Mbw(h:P:=by
 go_enter func165,ntmps165;go_wp2_with (refine HA.o.mono ?_;rintro e w1 ⟨rfl,rfl⟩);go_ret;exact⟨rfl,HP.o,Cs _ _⟩):P:=h
theorem Mbx(h:P:=by
 clear hc;go_wp2_with (refine HC.o.mono ?_;rintro e w1 ⟨rfl,rfl⟩);go_ret;exact⟨r,rfl,af,KR,HA.o,.inr HT.o⟩):P:=h
theorem Mby(h:P:=by
 go_wp2_with fail;refine HC.o.mono ?_;rintro e w3 ⟨rfl,Kq⟩;unfold pj;go_wp2_with fail;exact⟨rfl,rfl,Ws9.o _ Kq⟩):P:=h
theorem Mbz(h:P:=by
 rcases Kj with e|e
 ·exact .inl e
 refine .inr (fun g hg=>?_);rw[e,World.alloc_size]at hg;have:=kp hg;omega):P:=h
theorem MbA(h:P:=by
 have LD:k=s.size:=ae;clear Rd;go_wp2;go_ret2;refine⟨?_,Kh⟩;rw[hN.o,LD,lL (by rw[kE];exact jU)];rfl):P:=h
theorem MbB(h:P:=by
 rcases htk with h'|h'
 ·rw[h'];exact⟨0,false,rfl,(fun h=>by cases h)⟩
 rw[h'];exact⟨5,true,rfl,fun _=>rfl⟩):P:=h
theorem MbC(h:P:=by
 rintro e wy ⟨rfl,rfl⟩;unfold pj;go_wp2_with fail;rw[Ld.o];exact⟨rfl,rfl,VI.trans2 (sR (Ma.alloc VJ _))⟩):P:=h
theorem MbD(h:P:=by
 go_wp2;go_roundw
 case rel=>exact⟨k+1,ae,ao,LV.o.1,LV.o.2⟩
 case measure=>simp[intOf];omega):P:=h
theorem MbE(h:P:=by
 show qL s=_;rw[YL.o];unfold ua;rw[Qs.o,jS (fun h=>h.elim Vl.o (fun e=>by rw[KD]at e;cases e)),Og,HD.o]):P:=h
theorem MbF(h:P:=by
 rw[kk _ ⟨w.heap.size,2,none⟩ k _ hk,kk _ ⟨w.heap.size,1,none⟩ k _ hk,kk _ ⟨w.heap.size,0,none⟩ k _ hk]):P:=h
theorem MbG(h:P:=by
 rw[e];go_enter func194,ntmps194;go_wp2;go_end0;exact⟨rfl,HL.o.wrong3 true,(LGrow.refl _ _ _).set _ _⟩):P:=h
theorem MbH(h:P:=by
 have e':(T.getD 0 endR).s=wINS:=e;rcases hw with hw|hw <;> (rw[hw]at e';exact absurd e' ah)):P:=h
theorem MbI(h:P:=by
 obtain⟨a,b,c,d⟩:=h.tk k hk;exact⟨(hg _).trans a,(hg _).trans b,(hg _).trans c,(hg _).trans d⟩):P:=h
theorem MbJ(h:P:=by
 cases h:isD c with
 |false=>rfl
 |true=>
  exfalso;unfold goodD at LH;rw[h]at LH;simp at LH):P:=h
theorem MbK(h:P:=by
 clear hw LA;go_wp2_with fail;go_ret;exact⟨aM,Rg.o,by rw[<-HF.o];exact Wn.o⟩):P:=h
theorem MbL(h:P:=by
 have e:isD c=false:=by simp[isD];omega
 rw[e];go_enter func204,ntmps204;go_wp2;go_ret;simp):P:=h
theorem MbM(h:P:=by
 have e:isD c=false:=by simp[isD];omega
 rw[e];go_enter func128,ntmps128;go_wp2;go_ret;simp):P:=h
theorem MbN(h:P:=by
 exact⟨rfl,.inl ⟨lh rfl,rfl,rfl,rfl,rfl,ah,fun _=>rfl,fun _=>lh rfl⟩,N9 ae⟩):P:=h
theorem MbO(h:P:=by
 exact⟨rfl,.inl ⟨lh rfl,rfl,rfl,rfl,rfl,ah,fun _=>rfl,fun _=>lh rfl⟩,Kk ae⟩):P:=h
theorem MbP(h:P:=by
 subst eR;go_wp2;go_ret;exact⟨HB.o.trans (Lu.o.mono HB.o.size),_,rfl,pC Ki.o ae⟩):P:=h
theorem MbQ(h:P:=by
 refine(yI x MR MS _).mono ?_;rintro e w1 ⟨rfl,rfl⟩;go_wp2;go_ret;exact⟨qY (sG _ _),jV⟩):P:=h
theorem MbR(h:P:=by
 exact⟨rfl,.inl ⟨lh rfl,rfl,rfl,rfl,rfl,lh rfl,fun _=>rfl,fun _=>lh rfl⟩,Kk ae⟩):P:=h
theorem MbS(h:P:=by
 have:=hf;rw[show ([]:List (Nat×List Trm)).map (·.1)=[] from rfl,Wp1]at this;exact this):P:=h
theorem MbT(h:P:=by
 exact⟨fun⟨x,h1,h2⟩=>⟨x,h1,aO⟩,fun⟨x,h1,h2⟩=>⟨x,h1,aO⟩⟩):P:=h
theorem MbU(h:P:=by
 by_cases z:d=0
 ·rw[jT z];decide
 rw[jS z];intro q;subst q;exact absurd SC ah):P:=h
theorem MbV(h:P:=by
 go_wp2_with (refine HN.o.mono ?_;rintro e w1 ⟨rfl,hps,hg⟩);go_ret;exact⟨rfl,hps,hg⟩):P:=h
theorem MbW(h:P:=by
 rcases hB.row with⟨_,⟨rfl,h0⟩|⟨g,Kd,KG,rfl,_⟩⟩
 ·exact⟨_,_,bu⟩
 exact⟨_,_,rfl⟩):P:=h
theorem MbX(h:P:=by
 refine HP.o.kept ?_;repeat (first| exact jV|refine n7 ?_ (by simpa using VG.o) _)):P:=h
theorem MbY(h:P:=by
 obtain⟨_,⟨rfl,h'⟩|⟨g,Kd,KG,rfl,_⟩⟩:=id Ke
 ·exact⟨none,0,by rw[h']⟩
 exact⟨_,_,rfl⟩):P:=h
theorem MbZ(h:P:=by
 clear h1 h2 h3;go_enter func89,ntmps89;go_wp2;go_ret;exact⟨cB,rfl⟩):P:=h
theorem Mb0(h:P:=by
 rintro (h|h)
 ·exact Kk h
 rw[<-vU s 2]at h;unfold allIn at ha;rw[ha]at h;cases h):P:=h
theorem Mb1(h:P:=by
 go_enter func92,ntmps92;go_wp2_with fail;go_ret;exact⟨cC,HB.o _⟩):P:=h
theorem Mb2(h:P:=by
 repeat (first| exact(sR (HW.o _)).trans2 KT|refine grown_fresh ?_ af _)):P:=h
theorem Mb3(h:P:=by
 go_wp2_with fail;go_ret;exact⟨aM,SD.o,by rw[<-HF.o];exact Mo.o⟩):P:=h
theorem Mb4(h:P:=by
 go_wp2_with fail;go_ret;exact⟨aM,Rg.o,by rw[<-HF.o];exact Wn.o⟩):P:=h
theorem Mb5(h:P:=by
 go_wp2_with fail;go_ret;exact⟨by rw[<-Wl.o];rfl,Pf.o,by rw[<-Wl.o];exact Q5.o⟩):P:=h
theorem Mb6(h:P:=by
 have hz:r.size=0:=ae;go_wp2;go_ret;exact⟨r,rfl,af,KR,HA.o,.inl hz⟩):P:=h
theorem Mb8(h:P:=by
 rcases h1 with⟨_,⟨rfl,rfl⟩|⟨g,Kd,KG,rfl,_⟩⟩
 ·exact⟨_,_,rfl⟩
 exact⟨_,_,rfl⟩):P:=h
theorem Mb9(h:P:=by
 by_cases c:lb=⟨#[]⟩
 ·rw[jT c,kj c];simp
 rw[jS c,j9 c];simp[Bool.and_comm]):P:=h
theorem Mca(h:P:=by
 show qL s=bangT;rw[YL.o];unfold ua;rw[jT (.inr (by rw[Qs.o];exact MT.o))]):P:=h
theorem Mcb(h:P:=by
 show _=some (Value.bool (bF.getD i false));unfold bF;rw[jZ,mG,jT hi];rfl):P:=h
theorem Mcc(h:P:=by
 obtain⟨_,⟨rfl,_⟩|⟨g,Kd,KG,rfl,_⟩⟩:=h
 ·exact⟨_,_,_,rfl⟩
 exact⟨_,_,_,rfl⟩):P:=h
theorem Mcd(h:P:=by
 cases h2;have q:=zV h1 ha.tail;refine⟨q.1,q.2.1,?_⟩;simp only[kh];omega):P:=h
theorem Mce(h:P:=by
 rw[<-hv];unfold sF;unfold goodD tN isD at LH;simp at LH;split <;> omega):P:=h
theorem Mcf(h:P:=by
 go_enter func134,ntmps134;go_wp2;go_ret;exact⟨cB,HB.o _⟩):P:=h
theorem Mcg(h:P:=by
 intro h;exact Tq (by have:=lp List.length h;rw[kE]at this;exact this)):P:=h
theorem Mch(h:P:=by
 obtain⟨_,⟨rfl,rfl⟩|⟨g,Kd,KG,rfl,_⟩⟩:=h
 ·exact⟨_,_,rfl⟩
 exact⟨_,_,rfl⟩):P:=h
theorem Mci(h:P:=by
 intro i;rw[show (k+1)*4+i=k*4+i+1+1+1+1 by omega];simp[pN,Trm.cells]):P:=h
theorem Mcj(h:P:=by
 go_ret;exact⟨qY (sG _ _),(jV.alloc jU _).trans (hb.mono af)⟩):P:=h
theorem Mck(h:P:=by
 go_ret;exact⟨HB.o.trans (Lp.mono HB.o.size),_,rfl,pC QW ae⟩):P:=h
theorem Mcl(h:P:=by
 cases l with
 |nil=>exact absurd rfl hl
 |cons u l2=>exact⟨u,l2,rfl⟩):P:=h
theorem Mcm(h:P:=by
 obtain⟨_,⟨_,h'⟩|⟨g,Kd,KG,rfl,_⟩⟩:=id Ke
 ·simp at h'
 exact⟨_,_,rfl⟩):P:=h
theorem Mcn(h:P:=by
 go_enter func89,ntmps89;go_wp2;go_ret;exact⟨cB,rfl⟩):P:=h
theorem Mco(h:P:=by
 rintro e w1 ⟨rfl,Kh⟩;go_wp2;go_ret2;exact⟨rfl,Kh.alloc Kh.size _⟩):P:=h
theorem Mcq(h:P:=by
 exact((jV.alloc jU _).alloc af _).alloc ai _):P:=h
theorem Mcr(h:P:=by
 obtain⟨D,⟨es,L4,h1,h2⟩,h3⟩:=h;exact⟨D,⟨es,L4,he.trans h1,h2⟩,h3⟩):P:=h
theorem Mcs(h:P:=by
 go_enter func107,ntmps107;go_wp2;go_ret;exact⟨rfl,jV.alloc jU _⟩):P:=h
theorem Mct(h:P:=by
 rw[h1]at hl;unfold lkN at hl;repeat' split at hl
 all_goals omega):P:=h
theorem Mcu(h:P:=by
 apply Aj;simp[ByteArray.data_append,Lib.join,List.intercalate]):P:=h
theorem Mcv(h:P:=by
 rintro (h|h)
 ·exact Kk h
 unfold allIn at ha;rw[ha]at h;cases h):P:=h
theorem Mcw(h:P:=by
 rw[e];go_enter func254,ntmps254;go_wp2;go_ret;exact⟨rfl,LQ _⟩):P:=h
theorem Mcx(h:P:=by
 have:=HX.o;rw[Sc.o,Me,jT ⟨rfl,Pm.trans Mu⟩]at this;exact this):P:=h
theorem Mcz(h:P:=by
 exact⟨g,r1,(jW (a:=⟨g,j,none⟩) (K1.block g r2)).trans r3⟩):P:=h
theorem McA(h:P:=by
 go_enter func243,ntmps243;go_wp2;go_ret;exact⟨rfl,rfl⟩):P:=h
theorem McB(h:P:=by
 go_enter func216,ntmps216;go_wp2;go_ret;exact⟨rfl,hz⟩):P:=h
theorem McC(h:P:=by
 go_enter func97,ntmps97;go_wp2;go_ret;exact⟨rfl,rfl⟩):P:=h
theorem McD(h:P:=by
 go_enter func98,ntmps98;go_wp2;go_ret;exact⟨rfl,rfl⟩):P:=h
theorem McE(h:P:=by
 go_enter func66,ntmps66;go_wp2;go_ret;exact⟨rfl,hb⟩):P:=h
theorem McF(h:P:=by
 go_enter func54,ntmps54;go_wp2;go_ret;exact⟨rfl,hb⟩):P:=h
theorem McG(h:P:=by
 rw[a']at e;have:=lp List.length e;simp at this):P:=h
theorem McH(h:P:=by
 rw[HT.o,Da];have e1:=hN.o;have e2:=HD.o;omega):P:=h
theorem McI(h:P:=by
 go_enter func130,ntmps130;go_wp2;go_ret;simp):P:=h
theorem McJ(h:P:=by
 obtain⟨c,hc⟩:=xt Kc e;rw[Ux]at hc;simp at hc):P:=h
theorem McK(h:P:=by
 rw[<-Qs.o,jZ,jX (by rw[Qs.o];exact K2)];rfl):P:=h
theorem McL(h:P:=by
 rw[ht];split at h
 ·cases h;exact hl
 cases h):P:=h
theorem McM(h:P:=by
 simp[tf,Option.map_map,Function.comp_def]):P:=h
theorem McN(h:P:=by
 obtain⟨vs,h1,_⟩:=h.vals;exact tI h1 rfl):P:=h
theorem McO(h:P:=by
 go_wp2;go_ret;exact⟨rfl,jV.alloc jU _⟩):P:=h
theorem McP(h:P:=by
 exact(jV.alloc jU _).alloc af _):P:=h
theorem McQ(h:P:=by
 rw[jT c3]at h;exact absurd (rr h).2 c3):P:=h
theorem oP{p:Prop}(h:p):Hid p:=h
def xo(P:Program)(ops:Array Oper):List Oper->Act->World->Option (Act×World)
 |[],a,w=>some (a,w)
 |o::rest,a,w=>
  match Region.wanted o (yielded ops a.tmps) with
  |true=>match (execOp a.eval o).run P w with
   |.ok (.value v) w'=>xo P ops rest (a.put o.dst v) w'
   |.ok .skip w'=>xo P ops rest (a.put o.dst undef) w'
   |_=>none
  |false=>xo P ops rest (a.put o.dst undef) w
theorem BE{P:Program}{ops:Array Oper}{Q:Exit->Act->World->Prop}:∀(l:List Oper) (a:Act) (w:World) (A:Act) (w':World),xo P ops l a w=some (A,w')->Q .normal A w'->wpList P ops Q l a w
 |[],a,w,A,w',h,hq=>by
  simp only[xo,me,mH]at h
  obtain⟨rfl,rfl⟩:=h
  exact hq
 |o::rest,a,w,A,w',h,hq=>by
  unfold wpList
  unfold xo at h
  cases hw:Region.wanted o (yielded ops a.tmps) with
  |true=>
   rw[hw]at h
   simp only at h
   rw[jT rfl]
   refine .inl ?_
   unfold Oper.wp
   cases D:(execOp a.eval o).run P w with
   |ok n G=>
    rw[D]at h
    cases n with
    |value v=>exact BE rest _ _ A w' h hq
    |skip=>exact BE rest _ _ A w' h hq
    |_=>simp at h
   |halt x G=>rw[D]at h;simp at h
  |false=>
   rw[hw]at h
   simp only at h
   rw[jS af]
   exact BE rest _ _ A w' h hq
def rT(P:Program):Code->Act->World->Option (Bool×Act×World)
 |.seq x y,a,w=>match rT P x a w with
  |some (false,A,w')=>rT P y A w'
  |r=>r
 |.region _ ops false,a,w=>match xo P ops ops.toList a w with
  |some (A,w')=>some (false,A,w')
  |none=>none
 |.skip,a,w=>some (false,a,w)
 |.ret,a,w=>some (true,a,w)
 |_,_,_=>none
theorem Bv{P:Program}{Q:Exit->Act->World->Prop}:∀(c:Code) (a:Act) (w:World) (b:Bool) (A:Act) (w':World),rT P c a w=some (b,A,w')->Q (match b with|true=>.ret|false=>.normal) A w'->c.wp P Q a w
 |.seq x y,a,w,b,A,w',h,hq=>by
  unfold rT at h
  refine wp_seq ?_
  cases hx:rT P x a w with
  |none=>rw[hx]at h;simp at h
  |some r=>
   obtain⟨b1,a1,D⟩:=r
   rw[hx]at h
   cases b1 with
   |false=>exact Bv x a w false a1 D hx (Bv y a1 D b A w' h hq)
   |true=>
    simp only[me,mH]at h
    obtain⟨rfl,rfl,rfl⟩:=h
    exact Bv x a w true _ _ hx hq
 |.region i ops false,a,w,b,A,w',h,hq=>by
  unfold rT at h
  refine wp_region_list ?_
  cases hx:xo P ops ops.toList a w with
  |none=>rw[hx]at h;simp at h
  |some r=>
   rw[hx]at h
   simp only[me,mH]at h
   obtain⟨rfl,rfl,rfl⟩:=h
   exact BE _ a w r.1 r.2 hx hq
 |.skip,a,w,b,A,w',h,hq=>by
  simp only[rT,me,mH]at h
  obtain⟨rfl,rfl,rfl⟩:=h
  exact wp_skip hq
 |.ret,a,w,b,A,w',h,hq=>by
  simp only[rT,me,mH]at h
  obtain⟨rfl,rfl,rfl⟩:=h
  exact wp_ret hq
 |.region _ _ true,_,_,_,_,_,h,_=>aP
 |.cond ..,_,_,_,_,_,h,_=>aP
 |.block ..,_,_,_,_,_,h,_=>aP
 |.loop ..,_,_,_,_,_,h,_=>aP
 |.rangeFunc ..,_,_,_,_,_,h,_=>aP
 |.exit ..,_,_,_,_,_,h,_=>aP
 |.scope ..,_,_,_,_,_,h,_=>aP
 |.label ..,_,_,_,_,_,h,_=>aP
 |.goto ..,_,_,_,_,_,h,_=>aP
 |.refuse ..,_,_,_,_,_,h,_=>aP
theorem DK{P:Program}{f:FuncId}{A:Func}{c:Code}{args:Array Value}{w:World}{R:Ending->World->Prop}(v:Value)(w':World)
  (hf:P.funcs[f]?=some A) (J:A.body=some c)
  (h:((rT P c {tmps:=args++Array.replicate (A.ntmps-args.size) undef,defers:=[]} w).bind fun p=>match p.2.1.defers,(results A p.2.1.tmps).run P p.2.2 with
   |[],.ok v D=>some (v,D,p.2.2)
   | _,_=>none)=some (v,w',w'))
  (I:R (.returned v) w'):Calls P f args w R:=by
 refine calls_of_wp hf J ?_;cases G:rT P c {tmps:=args++Array.replicate (A.ntmps-args.size) undef,defers:=[]} w with
 |none=>rw[G]at h;simp at h
 |some p=>
  obtain⟨b,a1,M⟩:=p;rw[G]at h;simp only[Option.bind_some]at h;cases hd:a1.defers with
  |cons d O=>rw[hd]at h;simp at h
  |nil=>
   rw[hd]at h;cases hs:(results A a1.tmps).run P M with
   |halt x D=>rw[hs]at h;simp at h
   |ok v2 D=>
    rw[hs]at h;simp only[me,mH]at h;obtain⟨rfl,rfl,rfl⟩:=h;refine Bv c _ _ b a1 _ G ?_;cases b with
    |true=>exact⟨hd,_,hs,I⟩
    |false=>exact⟨hd,_,hs,I⟩
theorem A8{P:Program}{ops:Array Oper}{o:Oper}{a:Act}{w:World}{K:Act->World->Prop}{Q:Exit->Act->World->Prop}{E:Prop}(f:FuncId)(args:Array Value)
  (hg:o.guard=none) (KZ:(execOp a.eval o).run P w=.ok (.enter f args) w) (R:Ending->World->Prop) (hc:Calls P f args w R) (hR:∀e w',R e w'->∃ch,e=.panicked ch/\Q (.panic ch) a w')
  (_:Hid False->K (a.put o.dst (.slice none 0 0)) w):if Region.wanted o (yielded ops a.tmps)=true then Oper.wp P o a w K Q else E:=by
 exact MaX
theorem C5{P:Program}{ops:Array Oper}{o:Oper}{a:Act}{w:World}{K:Act->World->Prop}{Q:Exit->Act->World->Prop}{E:Prop}(A:Value)(f:FuncId)(args:Array Value)
  (hg:o.guard=none) (KZ:(execOp a.eval o).run P w=.ok (.enter f args) w) (R:Ending->World->Prop) (hc:Calls P f args w R) (hR:∀e w',R e w'->∃ch,e=.panicked ch/\Q (.panic ch) a w')
  (_:Hid False->K (a.put o.dst A) w):if Region.wanted o (yielded ops a.tmps)=true then Oper.wp P o a w K Q else E:=by
 exact MaX
theorem yO{P:Program}{ops:Array Oper}{o:Oper}{a:Act}{w:World}{K:Act->World->Prop}{Q:Exit->Act->World->Prop}{E:Prop}(A:Hid False)(_:K (a.put o.dst (.slice none 0 0)) w):if Region.wanted o (yielded ops a.tmps)=true then Oper.wp P o a w K Q else E:=A.out.elim
theorem zi{P:Program}{ops:Array Oper}{o:Oper}{a:Act}{w:World}{K:Act->World->Prop}{Q:Exit->Act->World->Prop}{E:Prop}(f:FuncId)(args:Array Value)
  (hg:o.guard=none) (A:(execOp a.eval o).run P w=.ok (.enter f args) w) (R:Ending->World->Prop) (S:Value->World->Prop) (hc:Calls P f args w R) (D:∀e w',R e w'->∃v,e=.returned v/\S v w')
  (G:∀v w',S v w'->K (a.put o.dst v) w'):if Region.wanted o (yielded ops a.tmps)=true then Oper.wp P o a w K Q else E:=by
 have hw:Region.wanted o (yielded ops a.tmps)=true:=da;rw[jT hw];unfold Oper.wp;rw[A,T0l];refine hc.mono ?_;intro e w' h;obtain⟨v,rfl,hs⟩:=D e w' h;exact G v w' hs
theorem xj{P:Program}{ops:Array Oper}{o:Oper}{a:Act}{w:World}{K:Act->World->Prop}{Q:Exit->Act->World->Prop}{E:Prop}
  (hg:o.guard=none) (s x:Operand) (t:TypeId) (I:o.op=Op.call {callee:=Callee.builtin Builtin.append,args:=#[s,x],argTypes:=#[t,t]})
  (base:Nat) (e:TypeId) (i:TypeInfo) (z:Value) (size bytes:Nat) (ht:P.underlying t=some (.slice e)) (hi:P.info? e=some i) (hz:i.zero=some z)
  (J:i.size=size) (M:i.bytes=bytes) (O:z.cells.size=size) (R:0<size)
  (v:Value) (n:Nat) (xs:List Value) (hs:a.eval s=v) (S:w.ownsRow base e size v n xs)
  (G:Addr) (m c:Nat) (D:List Value) (hx:a.eval x=.slice (some G) m c) (U:D.length=m*size) (V:∀j u,D[j]?=some u->w.cell? (G.add j)=some u) (h1:∀u∈D,u.oneCell'=true)
  (Z:n+m<=maxLen) (Ly:(n+m)*bytes<=140737488355328) (Mr:base<=w.heap.size)
  (hK:∀A w',w'.ownsRow base e size A (n+m) (xs++D)->w.grownBy w' v.ownBlock->(A.ownBlock=v.ownBlock\/A.ownBlock=some w.heap.size)->K (a.put o.dst A) w') :
  if Region.wanted o (yielded ops a.tmps)=true then Oper.wp P o a w K Q else E:=by
 have hw:Region.wanted o (yielded ops a.tmps)=true:=da;rw[jT hw];obtain⟨A,w',KZ,r1,r2,_,r3⟩:=ow (P:=P) w base t o.type e i z size bytes ht hi hz J M O R v n xs S G m c D U V h1 Z Ly Mr;unfold Oper.wp;simp[execOp,I,resolve,invoke,builtin,hs,hx,KZ,Result.andThen];exact hK A w' r1 r2 r3
