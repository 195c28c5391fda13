import Derived.Test.YtdgmoiflahoihaaGreatDoorAaw
import Derived.WalkKit
import Derived.Below

namespace Go.Proofs.YtdgmoiflahoihaaGreatDoor
abbrev i_:Int→Value:=.int .i64
abbrev a__(b o:Nat):Addr:=⟨b,o,none⟩
abbrev F__:Value:=.bool false
abbrev T__:Value:=.bool true
theorem h__{p:Prop}(h:p):Go.RowKit.Hid p:=h
abbrev B__(w v:World):Prop:=Go.RowKit.Below w.heap.size w v
abbrev e_:=@Go.World.cell?_of_block
abbrev g_:=@Go.RowKit.Below.refl
abbrev m_:=@Go.bodyPost_ret
abbrev o_:=@Go.RowKit.Below.heap_setCell
abbrev q_:=@Go.RowKit.Below.heap_alloc
abbrev r_:=@Go.World.block_lt_of_cell?
abbrev v_:=@Go.RowKit.Below.setCell
abbrev y_:=@Go.RowKit.Below.alloc
abbrev E_:=@Go.World.ownsRow_nil
abbrev F_:=@Go.cell_of_row
abbrev I_:=@Go.World.frozen?_of_block
abbrev R_:=@Go.heap_alloc_new
abbrev T_:=@Go.World.cell?_alloc_past
abbrev a_d:=@Go.RowKit.ownsRow_setCell_below
abbrev a_k:=@Go.wpList_store_row
abbrev a_l:=@Go.wpList_load_row
abbrev a_x:=@Go.World.cell?_setCell_other
abbrev a_L:=@Go.Value.slice.injEq
abbrev a_N:=@Go.setRow_heap
abbrev a_O:=@Go.results_cell_row
abbrev a_3:=@Go.World.frozen?_alloc_past
abbrev a_7:=@Go.DataW.trod_int
abbrev b_i:=@Go.wpList_append_own
abbrev b_j:=@Go.IntWalk.i64_in
abbrev b_p:=@Go.block_lt_of_cell
abbrev b_A:=@Go.WideShapes.add_plain
end Go.Proofs.YtdgmoiflahoihaaGreatDoor
